/- The law's list of files: with one, without one. A change, done to the law's list of files. The law DiskRuns, its plain side. The frame of DiskRuns, its loop's body in pieces, and what stands between them. -/
import Derived.Test.YtbdmlenapccdnaaJoin7
import Derived.Deep.AppendLies
import Derived.Laws.AppendOwn
import Derived.Deep.RegionHeld3
namespace Go.Proofs.Ytbdmlenapccdnaa
open Go.RowKit

theorem infoFile : (Try.prog.info? 49).map (fun i => (i.zero, i.size, i.bytes)) = some (some (.agg #[.string ⟨#[]⟩, .string ⟨#[]⟩]), 2, 32) := by kernel_rfl
theorem fcells_one (L : Fl) : ∀ u ∈ fcells L, u.oneCell' = true := by
  intro u hu
  unfold fcells at hu
  obtain ⟨p, _, hp⟩ := List.mem_flatMap.1 hu
  simp at hp
  rcases hp with rfl | rfl <;> rfl
theorem FlV.take {w : World} {g c : Nat} {L : Fl} (h : FlV w g c L) (i : Nat) : ∀ j u, (fcells (L.take i))[j]? = some u → w.cell? ((⟨g, 0, none⟩ : Addr).add j) = some u := by
  intro j u hj
  have e : fcells L = fcells (L.take i) ++ fcells (L.drop i) := by rw [← fcells_append, List.take_append_drop]
  have hlt := (List.getElem?_eq_some_iff.1 hj).1
  have h1 : (fcells L)[j]? = some u := by rw [e, List.getElem?_append_left hlt]; exact hj
  have hl := fcells_len L
  have hj' := (List.getElem?_eq_some_iff.1 h1).1
  have h2 : w.cell? ⟨g, j, none⟩ = some u := by
    unfold FlV at h
    rw [h.cellAt j (by omega), h1]
  rw [Go.WideShapes.add_plain, Nat.zero_add]
  exact h2
theorem FlV.drop {w : World} {g c : Nat} {L : Fl} (h : FlV w g c L) (i : Nat) (hi : i ≤ L.length) : ∀ j u, (fcells (L.drop i))[j]? = some u → w.cell? ((⟨g, i * 2, none⟩ : Addr).add j) = some u := by
  intro j u hj
  have e : fcells L = fcells (L.take i) ++ fcells (L.drop i) := by rw [← fcells_append, List.take_append_drop]
  have hlt : (fcells (L.take i)).length = i * 2 := by rw [fcells_len, List.length_take]; omega
  have h1 : (fcells L)[i * 2 + j]? = some u := by
    rw [e, List.getElem?_append_right (by omega), hlt]
    rw [show i * 2 + j - i * 2 = j by omega]
    exact hj
  have hl := fcells_len L
  have hj' := (List.getElem?_eq_some_iff.1 h1).1
  have h2 : w.cell? ⟨g, i * 2 + j, none⟩ = some u := by
    unfold FlV at h
    rw [h.cellAt (i * 2 + j) (by omega), h1]
  rw [Go.WideShapes.add_plain]
  exact h2
theorem if_some {p : Prop} [Decidable p] (a b : Addr) (m c : Nat) : Value.slice (if p then some a else some b) m c = Value.slice (some (if p then a else b)) m c := by split <;> rfl
theorem FlV.cap {w : World} {g c : Nat} {L : Fl} (h : FlV w g c L) : L.length ≤ c ∧ c ≤ maxLen := by
  rcases h.2 with ⟨h, _⟩ | ⟨g', cap, cur, h, _, _, h1, h2, _⟩
  · cases h
  · injection h with _ _ h
    subst h
    exact ⟨h1, h2⟩
/-- a slice from i on; one that begins at its capacity's end points to the beginning -/
theorem FlV.drop' {w : World} {g c : Nat} {L : Fl} (h : FlV w g c L) (i : Nat) (hi : i ≤ L.length) : ∀ j u, (fcells (L.drop i))[j]? = some u → w.cell? ((if c = i then (⟨g, 0, none⟩ : Addr) else ⟨g, i * 2, none⟩).add j) = some u := by
  intro j u hj
  split
  · have := h.cap
    rw [List.drop_of_length_le (by omega)] at hj
    simp [fcells] at hj
  · exact h.drop i hi j u hj
/-- what a call leaves that answers a list of files -/
def FlPost (L : Fl) (w : World) (e : Ending) (w' : World) : Prop := ∃ g c, e = .returned (.slice (some ⟨g, 0, none⟩) L.length c) ∧ FlV w' g c L ∧ w.heap.size ≤ g ∧ Fr (fun _ => False) w w'

set_option maxRecDepth 100000 in
set_option maxHeartbeats 1000000 in
theorem with_any (w : World) (g c : Nat) (L : Fl) (x : ByteArray) (b : List Int) (h : FlV w g c L) (hl : L.length ≤ 1000000) :
    Calls Try.prog 35 #[.slice (some ⟨g, 0, none⟩) L.length c, .string x, .string (strOfNums b)] w (FlPost (put L x b) w) := by
  obtain ⟨i0, hi, hz⟩ : ∃ i0, Try.prog.info? 49 = some i0 ∧ (i0.zero, i0.size, i0.bytes) = (some (.agg #[.string ⟨#[]⟩, .string ⟨#[]⟩]), 2, 32) := Option.map_eq_some_iff.1 infoFile
  obtain ⟨hz0, hz1, hz2⟩ : i0.zero = some (.agg #[.string ⟨#[]⟩, .string ⟨#[]⟩]) ∧ i0.size = 2 ∧ i0.bytes = 32 := by simpa using hz
  have HF := Lib.hid (find_any w g c L x h hl)
  have hix := idx_le L x
  obtain ⟨hcap, hmx⟩ := h.cap
  unfold maxLen at hmx
  have hi0 : (0 : Int) ≤ (idx L x : Int) := by omega
  have hi1 : (idx L x : Int) ≤ (c : Int) := by omega
  go_enter Try.func35, Try.ntmps35
  go_wp2_with fail
  refine HF.out.mono ?_
  rintro e w' ⟨rfl, n, rfl⟩
  have h1 := h.fr (Fr.drewN w n (fun _ => False)) (fun h => h)
  have hF2 : Fr (fun _ => False) w ((w.drewN n).alloc (.cells #[] 49)) := (Fr.drewN w n _).trans (Fr.alloc _ _ _)
  have h2 := h.fr hF2 (fun h => h)
  have hgl := h.lt
  have hcut : ∀ k, k ≤ L.length → (k : Int) ≤ (c : Int) := fun k hk => by omega
  have hlen1 : (fcells (L.take (idx L x))).length = idx L x * 2 := by rw [fcells_len, List.length_take]; omega
  have HP := Lib.hid (put_idx L x b)
  have fin : ∀ (s1 : Nat), s1 = (if (lk L x).isSome then idx L x + 1 else idx L x) → s1 ≤ L.length → fcells (L.take (idx L x)) ++ [Value.string x, Value.string (strOfNums b)] ++ fcells (L.drop s1) = fcells (put L x b) ∧ idx L x + 1 + (L.length - s1) = (put L x b).length := by
    intro s1 e hs1
    rw [HP.out, ← e]
    constructor
    · rw [fcells_append]
      simp [fcells]
    · simp only [List.length_append, List.length_take, List.length_cons, List.length_drop]
      omega
  have FIN := Lib.hid fin
  have hst : (lk L x).isSome = true → idx L x < L.length := by
    intro hs
    rcases Nat.lt_or_ge (idx L x) L.length with h | h
    · exact h
    · rw [lk_idx, List.getElem?_eq_none h] at hs
      cases hs
  have HS := Lib.hid hst
  clear fin hst
  cases hsm : (lk L x).isSome
  · rw [hsm] at HS
    have hdr : ((idx L x : Nat) : Int) ≤ (L.length : Int) := by omega
    go_wp2_with (first
      | (at_builtin; refine wpList_append_own _ rfl _ _ 27 rfl w.heap.size 49 i0 (.agg #[.string ⟨#[]⟩, .string ⟨#[]⟩]) 2 32 Try.underlying27 hi hz0 hz1 hz2 rfl (by decide) (.slice (some ⟨w.heap.size, 0, none⟩) 0 0) 0 [] rfl (World.ownsRow_lit (w.drewN n) #[] 0 (Nat.le_refl _) (by decide) rfl) ⟨g, 0, none⟩ (idx L x) c (fcells (L.take (idx L x))) rfl hlen1 (h2.take _) (fcells_one _) (by unfold maxLen; omega) (by omega) (by simp) ?_; intro v1 w2 hown1 hg1 hnn1; clear hnn1; have hf2 : Fr (fun _ => False) w w2 := hF2.then (Fr.grown hg1) (fun k e => .inr (by cases e; exact Nat.le_refl _)))
      | (at_builtin; refine wpList_append_own _ rfl _ _ 27 rfl w.heap.size 49 i0 (.agg #[.string ⟨#[]⟩, .string ⟨#[]⟩]) 2 32 Try.underlying27 hi hz0 hz1 hz2 rfl (by decide) v1 _ _ rfl (hown1.alloc _) ⟨w2.heap.size, 0, none⟩ 1 1 [.string x, .string (strOfNums b)] rfl rfl (cells_new w2 _ _) (by simp [Value.oneCell']) (by unfold maxLen; omega) (by omega) (by have := hf2.size; simp; omega) ?_; intro v2 w3 hown2 hg2 hnn2; clear hnn2; have hf3 : Fr (fun _ => False) w w3 := (hf2.trans (Fr.alloc _ _ _)).then (Fr.grown hg2) (fun k e => .inr (hown1.lt k e).1); have h3 := h.fr hf3 (fun h => h))
      | (at_builtin; refine wpList_append_own _ rfl _ _ 27 rfl w.heap.size 49 i0 (.agg #[.string ⟨#[]⟩, .string ⟨#[]⟩]) 2 32 Try.underlying27 hi hz0 hz1 hz2 rfl (by decide) v2 _ _ rfl hown2 (if c = idx L x then ⟨g, 0, none⟩ else ⟨g, (idx L x) * 2, none⟩) (L.length - (idx L x)) (c - (idx L x)) (fcells (L.drop (idx L x))) (if_some _ _ _ _) (by rw [fcells_len, List.length_drop]) (h3.drop' _ (by omega)) (fcells_one _) (by unfold maxLen; omega) (by omega) hf3.size ?_; intro v3 w4 hown3 hg3 hnn3; clear hnn3; have hf4 : Fr (fun _ => False) w w4 := hf3.then (Fr.grown hg3) (fun k e => .inr (hown2.lt k e).1)))
    all_goals
      obtain ⟨e1, e2⟩ := FIN.out (idx L x) (by rw [hsm]; rfl) (by omega)
      have hown : w4.ownsRow w.heap.size 49 2 v3 (put L x b).length (fcells (put L x b)) := by
        rw [← e1, ← e2]
        simpa using hown3
      obtain ⟨g4, c4, rfl, _, _⟩ := hown.form (by omega)
      go_wp2
      go_ret
      exact ⟨g4, c4, rfl, ownsRow_base_a hown (Nat.zero_le _), (hown.lt g4 rfl).1, hf4⟩
  · have hlt := HS.out hsm
    go_wp2_with (first
      | (at_builtin; refine wpList_append_own _ rfl _ _ 27 rfl w.heap.size 49 i0 (.agg #[.string ⟨#[]⟩, .string ⟨#[]⟩]) 2 32 Try.underlying27 hi hz0 hz1 hz2 rfl (by decide) (.slice (some ⟨w.heap.size, 0, none⟩) 0 0) 0 [] rfl (World.ownsRow_lit (w.drewN n) #[] 0 (Nat.le_refl _) (by decide) rfl) ⟨g, 0, none⟩ (idx L x) c (fcells (L.take (idx L x))) rfl hlen1 (h2.take _) (fcells_one _) (by unfold maxLen; omega) (by omega) (by simp) ?_; intro v1 w2 hown1 hg1 hnn1; clear hnn1; have hf2 : Fr (fun _ => False) w w2 := hF2.then (Fr.grown hg1) (fun k e => .inr (by cases e; exact Nat.le_refl _)))
      | (at_builtin; refine wpList_append_own _ rfl _ _ 27 rfl w.heap.size 49 i0 (.agg #[.string ⟨#[]⟩, .string ⟨#[]⟩]) 2 32 Try.underlying27 hi hz0 hz1 hz2 rfl (by decide) v1 _ _ rfl (hown1.alloc _) ⟨w2.heap.size, 0, none⟩ 1 1 [.string x, .string (strOfNums b)] rfl rfl (cells_new w2 _ _) (by simp [Value.oneCell']) (by unfold maxLen; omega) (by omega) (by have := hf2.size; simp; omega) ?_; intro v2 w3 hown2 hg2 hnn2; clear hnn2; have hf3 : Fr (fun _ => False) w w3 := (hf2.trans (Fr.alloc _ _ _)).then (Fr.grown hg2) (fun k e => .inr (hown1.lt k e).1); have h3 := h.fr hf3 (fun h => h))
      | (at_builtin; refine wpList_append_own _ rfl _ _ 27 rfl w.heap.size 49 i0 (.agg #[.string ⟨#[]⟩, .string ⟨#[]⟩]) 2 32 Try.underlying27 hi hz0 hz1 hz2 rfl (by decide) v2 _ _ rfl hown2 (if c = idx L x + 1 then ⟨g, 0, none⟩ else ⟨g, (idx L x + 1) * 2, none⟩) (L.length - (idx L x + 1)) (c - (idx L x + 1)) (fcells (L.drop (idx L x + 1))) (if_some _ _ _ _) (by rw [fcells_len, List.length_drop]) (h3.drop' _ (by omega)) (fcells_one _) (by unfold maxLen; omega) (by omega) hf3.size ?_; intro v3 w4 hown3 hg3 hnn3; clear hnn3; have hf4 : Fr (fun _ => False) w w4 := hf3.then (Fr.grown hg3) (fun k e => .inr (hown2.lt k e).1)))
    all_goals
      obtain ⟨e1, e2⟩ := FIN.out (idx L x + 1) (by rw [hsm]; rfl) (by omega)
      have hown : w4.ownsRow w.heap.size 49 2 v3 (put L x b).length (fcells (put L x b)) := by
        rw [← e1, ← e2]
        simpa using hown3
      obtain ⟨g4, c4, rfl, _, _⟩ := hown.form (by omega)
      go_wp2
      go_ret
      exact ⟨g4, c4, rfl, ownsRow_base_a hown (Nat.zero_le _), (hown.lt g4 rfl).1, hf4⟩

theorem step_append_fl {w : World} {ops : Array Oper} {o : Oper} {a : Act} {K : Act → World → Prop} {Q : Exit → Act → World → Prop} {E : Prop} (hgd : o.guard = none) (s x : Operand) (ho : o.op = .call { callee := .builtin .append, args := #[s, x], argTypes := #[27, 27] })
    (B : Nat) (i0 : TypeInfo) (hi : Try.prog.info? 49 = some i0) (hz0 : i0.zero = some (.agg #[.string ⟨#[]⟩, .string ⟨#[]⟩])) (hz1 : i0.size = 2) (hz2 : i0.bytes = 32)
    (v : Value) (n : Nat) (xs : List Value) (hs : a.eval s = v) (hown : w.ownsRow B 49 2 v n xs) (ad : Addr) (m c : Nat) (news : List Value) (hl : news.length = m * 2) (hx : a.eval x = .slice (some ad) m c) (hnews : ∀ j u, news[j]? = some u → w.cell? (ad.add j) = some u) (h1 : ∀ u ∈ news, u.oneCell' = true)
    (hn : n + m ≤ 2000000) (hB : B ≤ w.heap.size)
    (h : ∀ v' w', w'.ownsRow B 49 2 v' (n + m) (xs ++ news) → w.grownBy w' v.ownBlock → (v' = .slice none 0 0 ↔ v = .slice none 0 0 ∧ m = 0) → K (a.put o.dst v') w') : if Region.wanted o (yielded ops a.tmps) = true then Oper.wp Try.prog o a w K Q else E := by
  have hw : Region.wanted o (yielded ops a.tmps) = true := by simp [Region.wanted, hgd]
  rw [if_pos hw]
  obtain ⟨v', w', hrun, h2, h3, h4, _⟩ := run_append_own_at (P := Try.prog) w B 27 o.type 49 i0 _ 2 32 Try.underlying27 hi hz0 hz1 hz2 rfl (by decide) v n xs hown ad m c news hl hnews h1 (by unfold maxLen; omega) (by omega) hB
  unfold Oper.wp execOp
  simp only [ho, resolve, invoke, builtin, Sem.run_bind, Sem.run_pure, Result.andThen_ok, List.map_toArray, List.map_cons, List.map_nil, hs, hx, hrun]
  exact h v' w' h2 h3 h4

/-- what a call leaves that answers a list of files, new or old -/
def FlPost2 (g0 c0 : Nat) (L0 L : Fl) (w : World) (e : Ending) (w' : World) : Prop := ∃ g c, e = .returned (.slice (some ⟨g, 0, none⟩) L.length c) ∧ FlV w' g c L ∧ (w.heap.size ≤ g ∨ g = g0 ∧ c = c0 ∧ L = L0) ∧ Fr (fun _ => False) w w'

set_option maxRecDepth 100000 in
set_option maxHeartbeats 1000000 in
theorem without_any (w : World) (g c : Nat) (L : Fl) (x : ByteArray) (h : FlV w g c L) (hl : L.length ≤ 1000000) :
    Calls Try.prog 36 #[.slice (some ⟨g, 0, none⟩) L.length c, .string x] w (FlPost2 g c L (del L x) w) := by
  obtain ⟨i0, hi, hz⟩ : ∃ i0, Try.prog.info? 49 = some i0 ∧ (i0.zero, i0.size, i0.bytes) = (some (.agg #[.string ⟨#[]⟩, .string ⟨#[]⟩]), 2, 32) := Option.map_eq_some_iff.1 infoFile
  obtain ⟨hz0, hz1, hz2⟩ : i0.zero = some (.agg #[.string ⟨#[]⟩, .string ⟨#[]⟩]) ∧ i0.size = 2 ∧ i0.bytes = 32 := by simpa using hz
  have HF := Lib.hid (find_any w g c L x h hl)
  have hix := idx_le L x
  obtain ⟨hcap, hmx⟩ := h.cap
  unfold maxLen at hmx
  cases hsm : (lk L x).isSome
  · have hd := del_none L x hsm
    rw [hsm] at HF
    rw [hd]
    go_enter Try.func36, Try.ntmps36
    go_wp2_with fail
    refine HF.out.mono ?_
    rintro e w' ⟨rfl, n, rfl⟩
    go_wp2
    go_ret
    exact ⟨g, c, rfl, h.fr (Fr.drewN w n (fun _ => False)) (fun h => h), .inr ⟨rfl, rfl, rfl⟩, Fr.drewN w n _⟩
  · have hd := del_idx L x hsm
    rw [hsm] at HF
    have hlt : idx L x < L.length := by
      rcases Nat.lt_or_ge (idx L x) L.length with h | h
      · exact h
      · rw [lk_idx, List.getElem?_eq_none h] at hsm
        cases hsm
    have hi0 : (0 : Int) ≤ (idx L x : Int) := by omega
    have hi1 : (idx L x : Int) ≤ (c : Int) := by omega
    have hi2 : (0 : Int) ≤ (idx L x : Int) + 1 := by omega
    have hi3 : (idx L x : Int) + 1 ≤ (L.length : Int) := by omega
    have hwr : IntKind.i64.wrap ((idx L x : Int) + 1) = (idx L x : Int) + 1 := by rw [IntKind.wrap_i64]; omega
    have hlen1 : (fcells (L.take (idx L x))).length = idx L x * 2 := by rw [fcells_len, List.length_take]; omega
    have hfin : fcells (L.take (idx L x)) ++ fcells (L.drop (idx L x + 1)) = fcells (del L x) ∧ idx L x + (L.length - (idx L x + 1)) = (del L x).length := by
      rw [hd, fcells_append]
      refine ⟨rfl, ?_⟩
      rw [List.length_append, List.length_take, List.length_drop]
      omega
    have FIN := Lib.hid hfin
    clear hfin hd
    go_enter Try.func36, Try.ntmps36
    go_wp2_with fail
    refine HF.out.mono ?_
    rintro e w' ⟨rfl, n, rfl⟩
    have hF2 : Fr (fun _ => False) w ((w.drewN n).drew.alloc (.cells #[] 49)) := ((Fr.drewN w n _).trans (Fr.drew _ _)).trans (Fr.alloc _ _ _)
    have h2 := h.fr hF2 (fun h => h)
    go_wp2_with fail
    go_region_law (first
      | (refine step_append_fl (by rfl) _ _ (by rfl) w.heap.size i0 hi hz0 hz1 hz2 (.slice (some ⟨w.heap.size, 0, none⟩) 0 0) 0 [] rfl (World.ownsRow_lit (w.drewN n).drew #[] 0 (Nat.le_refl _) (by decide) rfl) ⟨g, 0, none⟩ (idx L x) c (fcells (L.take (idx L x))) hlen1 rfl (h2.take _) (fcells_one _) (by omega) (by simp) ?_; intro v1 w2 hown1 hg1 hnn1; have hf2 : Fr (fun _ => False) w w2 := hF2.then (Fr.grown hg1) (fun k e => .inr (by cases e; exact Nat.le_refl _)); have h3 := h.fr hf2 (fun h => h))
      | (refine step_append_fl (by rfl) _ _ (by rfl) w.heap.size i0 hi hz0 hz1 hz2 v1 _ _ rfl hown1 (if c = idx L x + 1 then ⟨g, 0, none⟩ else ⟨g, (idx L x + 1) * 2, none⟩) (L.length - (idx L x + 1)) (c - (idx L x + 1)) (fcells (L.drop (idx L x + 1))) (by rw [fcells_len, List.length_drop]) (by exact if_some _ _ _ _) (h3.drop' _ (by omega)) (fcells_one _) (by omega) hf2.size ?_; intro v2 w3 hown2 hg2 hnn2; have hf3 : Fr (fun _ => False) w w3 := hf2.then (Fr.grown hg2) (fun k e => .inr (hown1.lt k e).1)))
    all_goals
      obtain ⟨e1, e2⟩ := FIN.out
      have hown : w3.ownsRow w.heap.size 49 2 v2 (del L x).length (fcells (del L x)) := by
        rw [← e1, ← e2]
        simpa using hown2
      have hv1 : v1 ≠ .slice none 0 0 := fun e => by have := (hnn1.1 e).1; cases this
      have hv2 : v2 ≠ .slice none 0 0 := fun e => hv1 (hnn2.1 e).1
      obtain ⟨g4, c4, hge, hv4⟩ : ∃ g4 c4, w.heap.size ≤ g4 ∧ v2 = .slice (some ⟨g4, 0, none⟩) (del L x).length c4 := by
        rcases hown.2 with ⟨e, _⟩ | ⟨g', cap, cur, e, hb, _⟩
        · exact absurd e hv2
        · exact ⟨g', cap, hb, e⟩
      subst hv4
      clear hnn1 hnn2 hv1 hv2
      go_wp2
      all_goals
        go_ret
        exact ⟨g4, c4, rfl, ownsRow_base_a hown (Nat.zero_le _), .inl hge, hf3⟩

end Go.Proofs.Ytbdmlenapccdnaa
namespace Go.Proofs.Ytbdmlenapccdnaa
open Go.RowKit

/-- what the law does to its files -/
def didL (L : Fl) (o : OpV) : Fl :=
  if o.k = 0 then put L o.s ((lk L o.s).getD [] ++ o.b) else if o.k = 1 then (if o.s = o.t then L else put (del L o.s) o.t ((lk L o.s).getD [])) else del L o.s
theorem strOf_app (a b : List Int) : strOfNums a ++ strOfNums b = strOfNums (a ++ b) := by
  apply ByteArray.ext
  simp [strOfNums]
def opVal (o : OpV) : Value := .agg (opCells o)

set_option maxRecDepth 100000 in
set_option maxHeartbeats 1000000 in
theorem did_write (w : World) (g c : Nat) (L : Fl) (o : OpV) (h : FlV w g c L) (hl : L.length ≤ 1000000) (hok : Rd w .u8 o.A o.b) (hbl : o.b.length ≤ 1000000) (hu : used L ≤ 1000000000) (hk : o.k = 0) :
    Calls Try.prog 12 #[.slice (some ⟨g, 0, none⟩) L.length c, opVal o] w (FlPost2 g c L (didL L o) w) := by
  unfold opVal opCells
  obtain ⟨W, hW⟩ : ∃ W, w.alloc (.cells #[.int .i64 o.k, .string o.s, .string o.t, .slice o.A o.b.length o.c, .int .i64 o.n, .int .i64 o.torn] 30) = W := ⟨_, rfl⟩
  have hfW : ∀ n, Fr (fun _ => False) w (W.drewN n) := fun n => by rw [← hW]; exact (Fr.alloc w _ _).trans (Fr.drewN _ n _)
  have hC : Cel W w.heap.size 30 (opCells o) := by rw [← hW]; exact heap_alloc_new w _
  have x1 := hC.cell 1
  have x3 := hC.cell 3
  simp [opCells] at x1 x3
  have hF := fun n => h.fr (hfW n) (fun h => h)
  have kvn := fun n => conv_rd4 (cap := o.c) (hok.fr (hfW n))
  have hd : didL L o = put L o.s ((lk L o.s).getD [] ++ o.b) := by unfold didL; rw [if_pos hk]
  rw [hd]
  have hlu := lk_used L o.s
  have s1 := strOf_size ((lk L o.s).getD [])
  have s2 := strOf_size o.b
  have hsum : (strOfNums ((lk L o.s).getD [])).size + (strOfNums o.b).size ≤ 9223372036854775807 := by omega
  have kA := fun (w : World) => run_string_add_sum (P := Try.prog) w (strOfNums ((lk L o.s).getD [])) (strOfNums o.b) hsum
  have hsn : ¬ (9223372036854775807 < (strOfNums ((lk L o.s).getD [])).size + (strOfNums o.b).size) := by omega
  clear s1 s2
  have kb : (o.k == 0) = true := by rw [hk]; rfl
  have kR := Lib.hid (read_any (W.drewN 1) g c L o.s (hF 1) hl)
  have kH := Lib.hid (fun n => with_any (W.drewN n) g c L o.s ((lk L o.s).getD [] ++ o.b) (hF n) hl)
  rw [← strOf_app] at kH
  clear hk hd
  subst hW
  go_enter Try.func12, Try.ntmps12
  go_wp2_with fail
  go_region_held3 (fun w' => w'.cell? ⟨w.heap.size, 1, none⟩ = some (.string o.s) ∧ w'.cell? ⟨w.heap.size, 3, none⟩ = some (.slice o.A o.b.length o.c) ∧ (convert 28 9 (.slice o.A o.b.length o.c)).run Try.prog w' = .ok (.string (strOfNums o.b)) w')
    (first | exact ⟨x1, x3, kvn 1⟩ | exact ⟨x1, x3, kvn _⟩ | exact ⟨y1, y3, kv4⟩)
    (first
      | (go_at_call 18; refine kR.out.mono ?_; rintro e w2 ⟨rfl, n, rfl⟩)
      | (go_at_call 35; refine (kH.out (1 + n)).mono ?_; intro e w4 hP4; obtain ⟨g4, c4, rfl, h4, hge4, hf4⟩ := hP4; have z1 := hf4.block w.heap.size (by simp) (fun h => h); have y1 : w4.cell? ⟨w.heap.size, 1, none⟩ = some (.string o.s) := (World.cell?_of_block z1).trans x1; have y3 : w4.cell? ⟨w.heap.size, 3, none⟩ = some (.slice o.A o.b.length o.c) := (World.cell?_of_block z1).trans x3; have kv4 := conv_rd4 (cap := o.c) ((hok.fr (hfW (1 + n))).fr hf4)))
  all_goals
    go_wp2
    go_ret
    exact ⟨g4, c4, rfl, h4, .inl (Nat.le_trans (hfW (1 + n)).size hge4), (hfW (1 + n)).trans hf4⟩

set_option maxRecDepth 100000 in
set_option maxHeartbeats 1000000 in
theorem did_drop (w : World) (g c : Nat) (L : Fl) (o : OpV) (h : FlV w g c L) (hl : L.length ≤ 1000000) (hk0 : o.k ≠ 0) (hk1 : o.k ≠ 1) :
    Calls Try.prog 12 #[.slice (some ⟨g, 0, none⟩) L.length c, opVal o] w (FlPost2 g c L (didL L o) w) := by
  unfold opVal opCells
  have hd : didL L o = del L o.s := by unfold didL; rw [if_neg hk0, if_neg hk1]
  rw [hd]
  have kb : (o.k == 0) = false := by simpa using hk0
  have kb1 : (o.k == 1) = false := by simpa using hk1
  have hF1 : Fr (fun _ => False) w (w.alloc (.cells #[.int .i64 o.k, .string o.s, .string o.t, .slice o.A o.b.length o.c, .int .i64 o.n, .int .i64 o.torn] 30)) := Fr.alloc w _ _
  have h1 := h.fr hF1 (fun h => h)
  have kW := Lib.hid (without_any _ g c L o.s h1 hl)
  clear hk0 hk1 hd
  go_enter Try.func12, Try.ntmps12
  go_wp2_with fail
  refine kW.out.mono ?_
  intro e w4 hP4
  obtain ⟨g4, c4, rfl, h4, hge4, hf4⟩ := hP4
  have HG := Lib.hid hge4
  clear hge4
  go_wp2
  go_ret
  refine ⟨g4, c4, rfl, h4, ?_, hF1.trans hf4⟩
  rcases HG.out with hg | hg
  · exact .inl (Nat.le_trans hF1.size hg)
  · exact .inr hg

set_option maxRecDepth 100000 in
set_option maxHeartbeats 1000000 in
theorem did_stay (w : World) (g c : Nat) (L : Fl) (o : OpV) (h : FlV w g c L) (hk1 : o.k = 1) (hst : o.s = o.t) :
    Calls Try.prog 12 #[.slice (some ⟨g, 0, none⟩) L.length c, opVal o] w (FlPost2 g c L (didL L o) w) := by
  unfold opVal opCells
  have hd : didL L o = L := by unfold didL; rw [if_neg (by omega), if_pos hk1, if_pos hst]
  rw [hd]
  have kb : (o.k == 0) = false := by rw [hk1]; rfl
  have kb1 : (o.k == 1) = true := by rw [hk1]; rfl
  have ts : (o.s.toList == o.t.toList) = true := by rw [hst]; simp
  have hF1 : Fr (fun _ => False) w (w.alloc (.cells #[.int .i64 o.k, .string o.s, .string o.t, .slice o.A o.b.length o.c, .int .i64 o.n, .int .i64 o.torn] 30)) := Fr.alloc w _ _
  have h1 := h.fr hF1 (fun h => h)
  clear hk1 hd hst
  go_enter Try.func12, Try.ntmps12
  go_wp2
  go_ret
  exact ⟨g, c, rfl, h1, .inr ⟨rfl, rfl, rfl⟩, hF1⟩

set_option maxRecDepth 100000 in
set_option maxHeartbeats 1000000 in
theorem did_move (w : World) (g c : Nat) (L : Fl) (o : OpV) (h : FlV w g c L) (hl : L.length ≤ 1000000) (hk1 : o.k = 1) (hst : o.s ≠ o.t) :
    Calls Try.prog 12 #[.slice (some ⟨g, 0, none⟩) L.length c, opVal o] w (FlPost2 g c L (didL L o) w) := by
  unfold opVal opCells
  have hd : didL L o = put (del L o.s) o.t ((lk L o.s).getD []) := by unfold didL; rw [if_neg (by omega), if_pos hk1, if_neg hst]
  rw [hd]
  have kb : (o.k == 0) = false := by rw [hk1]; rfl
  have kb1 : (o.k == 1) = true := by rw [hk1]; rfl
  have ts := str_ne hst
  obtain ⟨W, hW⟩ : ∃ W, w.alloc (.cells #[.int .i64 o.k, .string o.s, .string o.t, .slice o.A o.b.length o.c, .int .i64 o.n, .int .i64 o.torn] 30) = W := ⟨_, rfl⟩
  have hfW : ∀ n, Fr (fun _ => False) w (W.drewN n) := fun n => by rw [← hW]; exact (Fr.alloc w _ _).trans (Fr.drewN _ n _)
  have hC : Cel W w.heap.size 30 (opCells o) := by rw [← hW]; exact heap_alloc_new w _
  have x1 := hC.cell 1
  have x2 := hC.cell 2
  simp [opCells] at x1 x2
  have hF := fun n => h.fr (hfW n) (fun h => h)
  have hld := Nat.le_trans (len_del L o.s) hl
  clear hk1 hd hst
  subst hW
  go_enter Try.func12, Try.ntmps12
  go_wp2_with fail
  go_region_held3 (fun w' => w'.cell? ⟨w.heap.size, 1, none⟩ = some (.string o.s) ∧ w'.cell? ⟨w.heap.size, 2, none⟩ = some (.string o.t))
    (first | exact ⟨x1, x2⟩ | exact ⟨z1, z2⟩ | exact ⟨y1, y2⟩)
    (first
      | (go_at_call 18; refine (read_any _ g c L o.s (hF 1) hl).mono ?_; rintro e w2 ⟨rfl, n, rfl⟩)
      | (go_at_call 36; refine (without_any _ g c L o.s (hF 1) hl).mono ?_; intro e w3 hP3; obtain ⟨g3, c3, rfl, h3, hge3, hf3⟩ := hP3; clear hge3; have b3 := hf3.block w.heap.size (by simp) (fun h => h); have z1 : w3.cell? ⟨w.heap.size, 1, none⟩ = some (.string o.s) := (World.cell?_of_block b3).trans x1; have z2 : w3.cell? ⟨w.heap.size, 2, none⟩ = some (.string o.t) := (World.cell?_of_block b3).trans x2; have hf30 := (hfW 1).trans hf3)
      | (go_at_call 36; refine (without_any _ g c L o.s (hF (1 + n)) hl).mono ?_; intro e w3 hP3; obtain ⟨g3, c3, rfl, h3, hge3, hf3⟩ := hP3; clear hge3; have b3 := hf3.block w.heap.size (by simp) (fun h => h); have z1 : w3.cell? ⟨w.heap.size, 1, none⟩ = some (.string o.s) := (World.cell?_of_block b3).trans x1; have z2 : w3.cell? ⟨w.heap.size, 2, none⟩ = some (.string o.t) := (World.cell?_of_block b3).trans x2; have hf30 := (hfW (1 + n)).trans hf3)
      | (go_at_call 18; refine (read_any _ g c L o.s (h.fr hf30 (fun h => h)) hl).mono ?_; rintro e w2 ⟨rfl, n, rfl⟩)
      | (go_at_call 35; refine (with_any w3 g3 c3 (del L o.s) o.t ((lk L o.s).getD []) h3 hld).mono ?_; intro e w4 hP4; obtain ⟨g4, c4, rfl, h4, hge4, hf4⟩ := hP4; have b4 := hf4.block w.heap.size (block_lt z1) (fun h => h); have y1 : w4.cell? ⟨w.heap.size, 1, none⟩ = some (.string o.s) := (World.cell?_of_block b4).trans z1; have y2 : w4.cell? ⟨w.heap.size, 2, none⟩ = some (.string o.t) := (World.cell?_of_block b4).trans z2; have hf40 := hf30.trans hf4; have hge40 := Nat.le_trans hf30.size hge4)
      | (go_at_call 35; refine (with_any (w3.drewN n) g3 c3 (del L o.s) o.t ((lk L o.s).getD []) (h3.fr (Fr.drewN _ n (fun _ => False)) (fun h => h)) hld).mono ?_; intro e w4 hP4; obtain ⟨g4, c4, rfl, h4, hge4, hf4⟩ := hP4; have b4 := hf4.block w.heap.size (block_lt z1) (fun h => h); have y1 : w4.cell? ⟨w.heap.size, 1, none⟩ = some (.string o.s) := (World.cell?_of_block b4).trans z1; have y2 : w4.cell? ⟨w.heap.size, 2, none⟩ = some (.string o.t) := (World.cell?_of_block b4).trans z2; have hf40 := (hf30.trans (Fr.drewN w3 n _)).trans hf4; have hge40 := Nat.le_trans (hf30.trans (Fr.drewN w3 n (fun _ => False))).size hge4))
  all_goals
    go_wp2
    go_ret
    exact ⟨g4, c4, rfl, h4, .inl hge40, hf40⟩

theorem did_any (w : World) (g c : Nat) (L : Fl) (o : OpV) (h : FlV w g c L) (hl : L.length ≤ 1000000) (hok : Rd w .u8 o.A o.b) (hbl : o.b.length ≤ 1000000) (hu : used L ≤ 1000000000) :
    Calls Try.prog 12 #[.slice (some ⟨g, 0, none⟩) L.length c, opVal o] w (FlPost2 g c L (didL L o) w) := by
  by_cases h0 : o.k = 0
  · exact did_write w g c L o h hl hok hbl hu h0
  · by_cases h1 : o.k = 1
    · by_cases hst : o.s = o.t
      · exact did_stay w g c L o h h1 hst
      · exact did_move w g c L o h hl h1 hst
    · exact did_drop w g c L o h hl h0 h1

end Go.Proofs.Ytbdmlenapccdnaa
namespace Go.Proofs.Ytbdmlenapccdnaa
open Go.RowKit

/-- an operation of the law as a change -/
def acOf (o : OpV) : AC := if o.k = 0 then ⟨0, o.s, ⟨#[]⟩, o.b⟩ else if o.k = 1 then ⟨1, o.s, o.t, []⟩ else ⟨2, o.s, ⟨#[]⟩, []⟩
/-- an operation that waits -/
structure Wt (w : World) (o : OpV) : Prop where
  ok : OpOk w o
  k : o.k = 0 ∨ o.k = 1 ∧ o.s ≠ o.t ∨ o.k = 2
  b : o.b.length ≤ 300
theorem did_act {L : Fl} {o : OpV} (h : o.k = 0 ∨ o.k = 1 ∧ o.s ≠ o.t ∨ o.k = 2) : didL L o = act L (acOf o) := by
  unfold didL acOf act
  rcases h with h | ⟨h, hs⟩ | h
  · simp [h]
  · simp [h, hs]
  · simp [h]

/-- what the law wants, ahead of the fuse -/
def want1 (A : Ab) (o : OpV) : Int :=
  if o.k = 5 ∨ o.k = 6 ∨ o.k < 0 ∨ 6 < o.k then 0
  else if o.k ≠ 3 ∧ Dx.name o.s = false ∨ o.k = 1 ∧ Dx.name o.t = false then 1
  else if A.off = true then 10
  else if o.k = 0 ∧ A.room - used A.now < o.b.length then 11
  else if (o.k = 1 ∨ o.k = 2 ∨ o.k = 4) ∧ lk A.now o.s = none then 4
  else 0
/-- a step is done, or the fuse burns at it -/
def goes (A : Ab) (o : OpV) : Prop := want1 A o = 0 ∧ 0 ≤ o.k ∧ o.k ≤ 3
def A1 (A : Ab) (o : OpV) : Ab :=
  if o.k = 0 then (wrA A o.s o.b).1 else if o.k = 1 then (mvA A o.s o.t).1 else if o.k = 2 then (drA A o.s).1 else if o.k = 3 then (syA A).1 else A
def want2 (A : Ab) (o : OpV) : Int :=
  if o.k = 0 then (wrA A o.s o.b).2 else if o.k = 1 then (mvA A o.s o.t).2 else if o.k = 2 then (drA A o.s).2 else if o.k = 3 then (syA A).2 else want1 A o
def wait1 (A : Ab) (o : OpV) (wt : List OpV) : List OpV :=
  if want1 A o = 0 ∧ 0 ≤ o.k ∧ o.k ≤ 3 then (if o.k = 3 then (if A.fuse = 1 then wt else []) else if o.k = 1 ∧ o.s = o.t then wt else wt ++ [o]) else wt
def A2 (A : Ab) (o : OpV) : Ab := if o.k = 5 then fuA A o.n else if o.k = 6 then crA A o.n o.torn else A1 A o
def wait2 (A : Ab) (o : OpV) (wt : List OpV) : List OpV := if o.k = 6 then [] else wait1 A o wt

theorem readyR1 (off : Bool) (s : ByteArray) : readyR off [s] = if Dx.name s = true then (if off = true then 10 else 0) else 1 := by
  unfold readyR; simp
theorem readyR2 (off : Bool) (s t : ByteArray) : readyR off [s, t] = if Dx.name s = true ∧ Dx.name t = true then (if off = true then 10 else 0) else 1 := by
  unfold readyR; simp

theorem stays {A : Ab} {o : OpV} (h : ¬ (want1 A o = 0 ∧ 0 ≤ o.k ∧ o.k ≤ 3)) : A1 A o = A ∧ want2 A o = want1 A o := by
  by_cases h0 : o.k = 0
  · have hw : want1 A o ≠ 0 := fun e => h ⟨e, by omega, by omega⟩
    simp only [want1, wrA, A1, want2, h0, readyR1] at *
    cases hn : Dx.name o.s <;> cases ho : A.off <;> simp [hn, ho] at hw ⊢
    by_cases hf : A.room - (used A.now : Int) < o.b.length
    · simp [hf]
    · simp [hf] at hw
  · by_cases h1 : o.k = 1
    · have hw : want1 A o ≠ 0 := fun e => h ⟨e, by omega, by omega⟩
      simp only [want1, mvA, A1, want2, h1, readyR2] at *
      cases hn : Dx.name o.s <;> cases hnt : Dx.name o.t <;> cases ho : A.off <;> simp [hn, hnt, ho] at hw ⊢
      simp [hw]
    · by_cases h2 : o.k = 2
      · have hw : want1 A o ≠ 0 := fun e => h ⟨e, by omega, by omega⟩
        simp only [want1, drA, A1, want2, h2, readyR1] at *
        cases hn : Dx.name o.s <;> cases ho : A.off <;> simp [hn, ho] at hw ⊢
        simp [hw]
      · by_cases h3 : o.k = 3
        · have hw : want1 A o ≠ 0 := fun e => h ⟨e, by omega, by omega⟩
          simp only [want1, syA, A1, want2, h3] at *
          cases ho : A.off <;> simp [ho] at hw ⊢
        · simp [A1, want2, h0, h1, h2, h3]
theorem goes0 {A : Ab} {o : OpV} (h : want1 A o = 0) (h0 : o.k = 0) : A1 A o = chgA A (acOf o) ∧ want2 A o = stpC A ∧ A.off = false := by
  simp only [want1, wrA, A1, want2, acOf, h0, readyR1] at *
  cases hn : Dx.name o.s <;> cases ho : A.off <;> simp [hn, ho] at h ⊢
  have hf : ¬ A.room - (used A.now : Int) < o.b.length := by omega
  simp [hf]
theorem goes1 {A : Ab} {o : OpV} (h : want1 A o = 0) (h1 : o.k = 1) : A1 A o = (if o.s = o.t then stpA A else chgA A (acOf o)) ∧ want2 A o = stpC A ∧ A.off = false := by
  simp only [want1, mvA, A1, want2, acOf, h1, readyR2] at *
  cases hn : Dx.name o.s <;> cases hnt : Dx.name o.t <;> cases ho : A.off <;> simp [hn, hnt, ho] at h ⊢
  rw [if_neg h]
  split <;> simp_all
theorem goes2 {A : Ab} {o : OpV} (h : want1 A o = 0) (h2 : o.k = 2) : A1 A o = chgA A (acOf o) ∧ want2 A o = stpC A ∧ A.off = false := by
  simp only [want1, drA, A1, want2, acOf, h2, readyR1] at *
  cases hn : Dx.name o.s <;> cases ho : A.off <;> simp [hn, ho] at h ⊢
  simp [h]
theorem goes3 {A : Ab} {o : OpV} (h : want1 A o = 0) (h3 : o.k = 3) : A1 A o = (if A.fuse = 1 then stpA A else { stpA A with safe := A.now, pend := [] }) ∧ want2 A o = stpC A ∧ A.off = false := by
  simp only [want1, syA, A1, want2, stpC, h3] at *
  cases ho : A.off <;> simp [ho] at h ⊢
  split <;> simp_all

end Go.Proofs.Ytbdmlenapccdnaa
namespace Go.Proofs.Ytbdmlenapccdnaa
open Go.RowKit

def sub : List Nat → Code → Code
  | [], c => c
  | 0 :: l, .seq a _ => sub l a
  | 1 :: l, .seq _ b => sub l b
  | 2 :: l, .block _ b => sub l b
  | 2 :: l, .loop b => sub l b
  | 3 :: l, .cond _ a _ => sub l a
  | 4 :: l, .cond _ _ b => sub l b
  | _, c => c
noncomputable def runs : Code := Try.f3.body.getD .skip
/-- the loop's body -/
noncomputable def body : Code := sub [1, 1, 1, 1, 1, 1, 1, 1, 1, 1, 0, 1, 2, 2] runs
/-- what the round does behind its guard -/
noncomputable def inner : Code := sub [1, 0, 2] body
noncomputable def pA : Code := sub [1, 1, 1, 1, 0] inner
noncomputable def pB : Code := sub [1, 1, 1, 1, 1, 0] inner
noncomputable def pC : Code := sub [1, 1, 1, 1, 1, 1, 1, 0] inner
noncomputable def pD : Code := sub [1, 1, 1, 1, 1, 1, 1, 1] inner

def tab (F : Nat → Value) : Nat → Nat → List Value
  | 0, _ => []
  | n + 1, k => F k :: tab F n (k + 1)
theorem tab_len (F : Nat → Value) : ∀ n k, (tab F n k).length = n
  | 0, _ => rfl
  | n + 1, k => by simp [tab, tab_len F n (k + 1)]
theorem tab_at (F : Nat → Value) : ∀ n k i, i < n → (tab F n k)[i]? = some (F (k + i))
  | 0, _, _, h => by omega
  | n + 1, k, 0, _ => rfl
  | n + 1, k, i + 1, h => by
    have := tab_at F n (k + 1) i (by omega)
    simp only [tab, List.getElem?_cons_succ, this]
    congr 2
    omega
set_option maxRecDepth 100000 in
def frm (room most : Int) (O : Option Addr) (n co d : Nat) (F : Nat → Value) : Array Value :=
  #[.int .i64 room, .slice O n co, F 2, F 3, F 4, .pointer (some ⟨d, 0, none⟩), .int .i64 most, F 7, F 8, F 9, F 10, F 11, F 12, F 13, F 14, F 15, F 16, F 17, F 18, F 19, F 20, F 21, F 22, F 23, F 24, F 25, F 26, F 27, F 28, F 29, F 30, F 31, F 32, F 33, F 34, F 35, F 36, F 37, F 38, F 39, F 40, F 41, F 42, F 43, F 44, F 45, F 46, F 47, F 48, F 49, F 50, F 51, F 52, F 53, F 54, F 55, F 56, F 57, F 58, F 59, F 60, F 61, F 62, F 63, F 64, F 65, F 66, F 67, F 68, F 69, F 70, F 71, F 72, F 73, F 74, F 75, F 76, F 77, F 78, F 79, F 80, F 81, F 82, F 83, F 84, F 85, F 86, F 87, F 88, F 89, F 90, F 91, F 92, F 93, F 94, F 95, F 96, F 97, F 98, F 99, F 100, F 101, F 102, F 103, F 104, F 105, F 106, F 107, F 108, F 109, F 110, F 111, F 112, F 113, F 114, F 115, F 116, F 117, F 118, F 119, F 120, F 121, F 122, F 123, F 124, F 125, F 126, F 127, F 128, F 129, F 130, F 131, F 132, F 133, F 134, F 135, F 136, F 137, F 138, F 139, F 140, F 141, F 142, F 143, F 144, F 145, F 146, F 147, F 148, F 149, F 150, F 151, F 152, F 153, F 154, F 155, F 156, F 157, F 158, F 159, F 160, F 161, F 162, F 163, F 164, F 165, F 166, F 167, F 168, F 169, F 170, F 171, F 172, F 173, F 174, F 175, F 176, F 177, F 178, F 179, F 180, F 181, F 182, F 183, F 184, F 185, F 186, F 187, F 188, F 189, F 190, F 191, F 192, F 193, F 194, F 195, F 196, F 197, F 198, F 199, F 200, F 201, F 202, F 203, F 204, F 205, F 206, F 207, F 208, F 209, F 210, F 211, F 212, F 213, F 214, F 215, F 216, F 217, F 218, F 219, F 220, F 221, F 222, F 223, F 224, F 225, F 226, F 227, F 228, F 229, F 230, F 231, F 232, F 233, F 234, F 235, F 236, F 237, F 238, F 239, F 240, F 241, F 242, F 243, F 244, F 245, F 246, F 247, F 248, F 249, F 250, F 251, F 252, F 253, F 254, F 255, F 256, F 257, F 258, F 259, F 260, F 261, F 262, F 263, F 264, F 265, F 266, F 267, F 268, F 269, F 270, F 271, F 272, F 273, F 274, F 275, F 276, F 277, F 278, F 279, F 280, F 281, F 282, F 283, F 284, F 285, F 286, F 287, F 288, F 289, F 290, F 291, F 292, F 293, F 294, F 295, F 296, F 297, F 298, F 299, F 300, F 301, F 302, F 303, F 304, F 305, F 306, F 307, F 308, F 309, F 310, F 311, F 312, F 313, F 314, F 315, F 316, F 317, F 318, F 319, F 320, F 321, F 322, F 323, F 324, F 325, F 326, F 327, F 328, F 329, F 330, F 331, F 332, F 333, F 334, F 335, F 336, F 337, F 338, F 339, F 340, F 341, F 342, F 343, F 344, F 345, F 346, F 347, F 348, F 349, F 350, F 351, F 352, F 353, F 354, F 355, F 356, F 357, F 358, F 359, F 360, F 361, F 362, F 363, F 364, F 365, F 366, F 367, F 368, F 369, F 370, F 371, F 372, F 373, F 374, F 375, F 376, F 377, F 378, F 379, F 380, F 381, F 382, F 383, F 384, F 385, F 386, F 387, F 388, F 389, F 390, F 391, F 392, F 393, F 394, F 395, F 396, F 397, F 398, F 399, F 400, F 401, F 402, F 403, F 404, F 405, F 406, F 407, F 408, F 409, F 410, F 411]
def slots (room most : Int) (O : Option Addr) (n co d : Nat) (t : Array Value) : Prop :=
  t.size = 412 ∧ t.getD 0 undef = .int .i64 room ∧ t.getD 1 undef = .slice O n co ∧ t.getD 5 undef = .pointer (some ⟨d, 0, none⟩) ∧ t.getD 6 undef = .int .i64 most
set_option maxRecDepth 100000 in
theorem frm_tab (room most : Int) (O : Option Addr) (n co d : Nat) (F : Nat → Value) (h0 : F 0 = .int .i64 room) (h1 : F 1 = .slice O n co) (h5 : F 5 = .pointer (some ⟨d, 0, none⟩)) (h6 : F 6 = .int .i64 most) : (tab F 412 0).toArray = frm room most O n co d F := by
  unfold frm
  rw [← h0, ← h1, ← h5, ← h6]
  kernel_rfl
theorem frm_of {room most : Int} {O : Option Addr} {n co d : Nat} {t : Array Value} (h : slots room most O n co d t) : t = frm room most O n co d (fun k => t.getD k undef) := by
  obtain ⟨hs, h0, h1, h5, h6⟩ := h
  rw [← frm_tab room most O n co d (fun k => t.getD k undef) h0 h1 h5 h6]
  apply Array.ext'
  apply List.ext_getElem?
  intro i
  by_cases hi : i < 412
  · rw [List.toList_toArray, tab_at _ _ _ _ hi, Nat.zero_add]
    have : i < t.size := by omega
    simp [this]
  · rw [List.getElem?_eq_none (by simp; omega), List.getElem?_eq_none (by simp [tab_len]; omega)]

end Go.Proofs.Ytbdmlenapccdnaa
