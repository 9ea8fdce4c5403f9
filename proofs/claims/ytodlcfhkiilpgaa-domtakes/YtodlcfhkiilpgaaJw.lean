/- What Take keeps of what is to do: a row of pairs of numbers; stack. -/
import Derived.Test.YtodlcfhkiilpgaaZP
import Derived.Test.YtodlcfhkiilpgaaJn
import Derived.Maps.OwnIn
import Derived.Maps.AppendAt
namespace Go.Proofs.Ytodlcfhkiilpgaa
open Go.RowKit Go.Shelf Go.Lib
attribute [local go_sem] Oper.semAt_some

theorem infoStg : (Try.prog.info? 81).map (fun i => (i.zero, i.size, i.bytes)) = some (some (.agg #[.int .i64 0, .int .i64 0]), 2, 16) := by kernel_rfl
def cellsS (l : List (Int × Int)) : List Value := l.flatMap (fun p => [.int .i64 p.1, .int .i64 p.2])
theorem cellsS_len (l : List (Int × Int)) : (cellsS l).length = l.length * 2 := by
  unfold cellsS
  induction l with
  | nil => rfl
  | cons x xs ih => rw [List.flatMap_cons, List.length_append, ih]; simp; omega
theorem cellsS_app (xs ys : List (Int × Int)) : cellsS (xs ++ ys) = cellsS xs ++ cellsS ys := by simp [cellsS]
theorem cellsS_one (l : List (Int × Int)) : ∀ u ∈ cellsS l, u.oneCell' = true := by
  intro u hu
  unfold cellsS at hu
  obtain ⟨p, _, hp⟩ := List.mem_flatMap.1 hu
  simp at hp
  rcases hp with rfl | rfl <;> rfl
theorem cellsS_get (l : List (Int × Int)) : ∀ (i : Nat) (p : Int × Int), l[i]? = some p → (cellsS l)[i * 2]? = some (.int .i64 p.1) ∧ (cellsS l)[i * 2 + 1]? = some (.int .i64 p.2) := by
  induction l with
  | nil => intro i p h; simp at h
  | cons y l ih =>
    intro i p h
    have hc : cellsS (y :: l) = [.int .i64 y.1, .int .i64 y.2] ++ cellsS l := rfl
    rw [hc]
    cases i with
    | zero => simp at h; subst h; exact ⟨rfl, rfl⟩
    | succ i =>
      rw [show (i + 1) * 2 = i * 2 + 1 + 1 by omega]
      exact ih i p (by simpa using h)
/-- one pair more behind a row -/
theorem run_pairs {w : World} {p q : Int} (b : Nat) (h : w.heap[b]? = some (.cells #[.int .i64 p, .int .i64 q] 81 (0, 0))) : ∀ j u, (cellsS [(p, q)])[j]? = some u → w.cell? ((⟨b, 0, none⟩ : Addr).add j) = some u := by
  intro j u hu
  rw [Addr.add_lit, cell_of_row _ _ _ _ _ _ h]
  simpa [cellsS] using hu
theorem wpListIn_append_stg {F : Fence} {nF : Nat} {w : World} {ops : Array Oper} {rest : List Oper} {o : Oper} {a : Act} {Q : Exit → Act → World → Prop} {s x : Operand} (hgd : o.guard = none)
    (ho : o.op = .call { callee := .builtin .append, args := #[s, x], argTypes := #[79, 79] }) (base : Nat) (v : Value) (l : List (Int × Int)) (hs : a.eval s = v) (hown : w.ownsRow base 81 2 v l.length (cellsS l))
    (b : Nat) (p q : Int) (hx : a.eval x = .slice (some ⟨b, 0, none⟩) 1 1) (hb : w.heap[b]? = some (.cells #[.int .i64 p, .int .i64 q] 81 (0, 0))) (hn : l.length + 1 ≤ 10000000) (hbase : base ≤ w.heap.size)
    (h : ∀ v' w', w'.ownsRow base 81 2 v' (l ++ [(p, q)]).length (cellsS (l ++ [(p, q)])) → w.grownBy w' v.ownBlock → (v'.ownBlock = v.ownBlock ∨ v'.ownBlock = some w.heap.size) → wpListIn F nF Try.prog ops Q rest (a.put o.dst v') w') : wpListIn F nF Try.prog ops Q (o :: rest) a w := by
  obtain ⟨i0, hi, hz0, hz1, hz2⟩ := info_parts infoStg
  refine wpListIn_append_own_at w hgd s x 79 ho base 81 i0 _ 2 16 Try.underlying79 hi hz0 hz1 hz2 rfl (by decide) v l.length _ hs hown ⟨b, 0, none⟩ 1 1 (cellsS [(p, q)]) hx rfl (run_pairs b hb) (cellsS_one _) (by unfold maxLen; omega) (by omega) hbase ?_
  intro v' w' h1 h2 _ h4
  refine h v' w' ?_ h2 h4
  rw [List.length_append, cellsS_app]
  exact h1
theorem wpList_append_stg {w : World} {ops : Array Oper} {rest : List Oper} {o : Oper} {a : Act} {Q : Exit → Act → World → Prop} {s x : Operand} (hgd : o.guard = none)
    (ho : o.op = .call { callee := .builtin .append, args := #[s, x], argTypes := #[79, 79] }) (base : Nat) (v : Value) (l : List (Int × Int)) (hs : a.eval s = v) (hown : w.ownsRow base 81 2 v l.length (cellsS l))
    (b : Nat) (p q : Int) (hx : a.eval x = .slice (some ⟨b, 0, none⟩) 1 1) (hb : w.heap[b]? = some (.cells #[.int .i64 p, .int .i64 q] 81 (0, 0))) (hn : l.length + 1 ≤ 10000000) (hbase : base ≤ w.heap.size)
    (h : ∀ v' w', w'.ownsRow base 81 2 v' (l ++ [(p, q)]).length (cellsS (l ++ [(p, q)])) → w.grownBy w' v.ownBlock → (v'.ownBlock = v.ownBlock ∨ v'.ownBlock = some w.heap.size) → wpList Try.prog ops Q rest (a.put o.dst v') w') : wpList Try.prog ops Q (o :: rest) a w := by
  obtain ⟨i0, hi, hz0, hz1, hz2⟩ := info_parts infoStg
  refine wpList_append_own_at w hgd s x 79 ho base 81 i0 _ 2 16 Try.underlying79 hi hz0 hz1 hz2 rfl (by decide) v l.length _ hs hown ⟨b, 0, none⟩ 1 1 (cellsS [(p, q)]) hx rfl (run_pairs b hb) (cellsS_one _) (by unfold maxLen; omega) (by omega) hbase ?_
  intro v' w' h1 h2 _ h4
  refine h v' w' ?_ h2 h4
  rw [List.length_append, cellsS_app]
  exact h1
theorem rvp_snd (xs : List Int) : ∀ p, p ≤ xs.length → (rvp xs p).map (·.2) = (xs.take p).reverse
  | 0, _ => by simp [rvp]
  | p + 1, h => by
    have hp : p < xs.length := by omega
    rw [List.take_succ_eq_append_getElem hp, List.reverse_append]
    simp only [rvp, List.map_cons, rvp_snd xs p (by omega), List.getElem?_eq_getElem hp, Option.getD_some, List.reverse_cons, List.reverse_nil, List.nil_append, List.cons_append]
theorem rvp_all {ns : List Nd} {K : List Int} (h : ∀ c ∈ K, inN ns c = true) (T : List (Int × Int)) (up : Int) : T ++ ((rvp K K.length).filter (fun x => inN ns x.2)).map (fun x => (x.2, up)) = T ++ itm K.reverse up := by
  have h2 := rvp_snd K K.length (Nat.le_refl _)
  rw [List.take_length] at h2
  have hf : (rvp K K.length).filter (fun x => inN ns x.2) = rvp K K.length := by
    rw [List.filter_eq_self]
    intro x hx
    have : x.2 ∈ (rvp K K.length).map (·.2) := List.mem_map_of_mem hx
    rw [h2, List.mem_reverse] at this
    exact h x.2 this
  rw [hf]
  unfold itm
  rw [← h2, List.map_map]
  rfl
theorem ko_refl (X : World) : KeepsOthers X X := KeepsOthers.of_grownBy (row := none) ⟨rfl, rfl, rfl, Nat.le_refl _, fun _ _ _ => rfl⟩ (fun _ _ e => by cases e)
theorem srcB_kt {B0 : Nat} {A : Option Addr} {cap : Nat} {xs : List Int} : ∀ {X Y Z : World}, (SrcB B0 A cap xs X → SrcB B0 A cap xs Y) → (SrcB B0 A cap xs Y → SrcB B0 A cap xs Z) → (SrcB B0 A cap xs X → SrcB B0 A cap xs Z) := fun h k x => k (h x)
theorem SrcB.grown {B0 : Nat} {A : Option Addr} {cap : Nat} {xs : List Int} {W W' : World} {row : Option Nat} (h : SrcB B0 A cap xs W) (hg : W.grownBy W' row) (h1 : row ≠ some B0) (h2 : ∀ ad, A = some ad → ad.block < W.heap.size → row ≠ some ad.block) : SrcB B0 A cap xs W' := by
  refine ⟨(hg.block B0 (Array.getElem?_eq_some_iff.1 h.box).1 (fun e => h1 e.symm)).trans h.box, ?_⟩
  rcases h.rd with h' | ⟨b, off, rfl, hl, h'⟩
  · exact .inl h'
  · exact .inr ⟨b, off, rfl, Nat.lt_of_lt_of_le hl hg.size, fun i hi => (World.cell?_of_block (a := ⟨b, off + i, none⟩) (hg.block b hl (fun e => h2 _ rfl hl e.symm))).trans (h' i hi)⟩
theorem srcB_kb {B0 : Nat} {A : Option Addr} {cap : Nat} {xs : List Int} (hx : 0 < xs.length) (W : World) (l : Nat) (o o' : Obj) (hl : W.heap[l]? = some o) (ho : o.isCells = false) : SrcB B0 A cap xs W → SrcB B0 A cap xs (W.putObj l o') := by
  intro h
  refine h.grown (grownBy_putObj' W l o') ?_ ?_
  · rintro e
    cases e
    have := h.box
    rw [hl] at this
    cases this
    cases ho
  · rintro ad rfl hlt e
    cases e
    obtain ⟨b, off, hA, hb, hc⟩ := h.rd.pos hx
    cases hA
    have h0 := hc 0 hx
    simp only [World.cell?] at h0
    rw [hl] at h0
    cases o <;> first | (cases ho; done) | (simp at h0; done)
theorem srcB_kb0 {B0 : Nat} {A : Option Addr} {cap : Nat} {xs : List Int} (W : World) (l : Nat) (o o' : Obj) (hl : W.heap[l]? = some o) (ho : o.isCells = false) : SrcB B0 A cap xs W → SrcB B0 A cap xs (W.putObj l o') := by
  intro h
  by_cases hx : 0 < xs.length
  · exact srcB_kb hx W l o o' hl ho h
  · have hn : xs = [] := List.eq_nil_of_length_eq_zero (by omega)
    subst hn
    refine ⟨((grownBy_putObj' W l o').block B0 (Array.getElem?_eq_some_iff.1 h.box).1 (fun e => ?_)).trans h.box, .inl rfl⟩
    cases e
    have := h.box
    rw [hl] at this
    cases this
    cases ho
/-- what is to do, behind some kids more -/
def todoS (ns : List Nd) (T : List (Int × Int)) (pre : List (Nat × Int)) (up : Int) : List (Int × Int) := T ++ (pre.filter (fun x => inN ns x.2)).map (fun x => (x.2, up))
/-- between two rounds of stack -/
structure SK (ns : List Nd) (B tb : Nat) (tv : Value) (T : List (Int × Int)) (up : Int) (W1 : World) (pre : List (Nat × Int)) (X : World) : Prop where
  fr : Frm (fun k => k = B + 1 ∨ tv.ownBlock = some k) W1 X
  bx : ∃ v, X.heap[B + 1]? = some (.cells #[v] 79 (0, 0)) ∧ X.ownsRow tb 81 2 v (todoS ns T pre up).length (cellsS (todoS ns T pre up)) ∧ (v.ownBlock = tv.ownBlock ∨ ∃ g, v.ownBlock = some g ∧ W1.heap.size ≤ g)
theorem SK.own {ns : List Nd} {B tb : Nat} {tv : Value} {T : List (Int × Int)} {up : Int} {W1 : World} (hB : B + 1 < W1.heap.size) : OwnFrom W1.heap.size (fun pre W => SK ns B tb tv T up W1 pre W) := by
  rintro s X Y row ⟨fr, v, h1, h2, h3⟩ hg hr
  have hlt := (Array.getElem?_eq_some_iff.1 h1).1
  refine ⟨fr.trans' (Frm.grown (S := fun k => row = some k) hg (fun _ e => e)) (fun _ e => .inr (hr _ e).1), v, (hg.block _ hlt (fun e => by have := (hr _ e.symm).1; omega)).trans h1, own_far h2 hg (fun g e1 e2 => ?_), h3⟩
  obtain ⟨_, o, ho, hc⟩ := hr g e2
  rcases h2.2 with ⟨e, _⟩ | ⟨g', cap, cur, e, _, hcur, _⟩
  · rw [e] at e1; cases e1
  · rw [e] at e1
    simp [Value.ownBlock] at e1
    subst e1
    rw [hcur] at ho
    cases ho
    cases hc
section
variable {base D : Nat} {v : Value} {qk : Bool} {ns : List Nd}
/-- a round's end -/
theorem sk_go {B tb : Nat} {tv : Value} {T : List (Int × Int)} {up : Int} {W1 X Y : World} {pre : List (Nat × Int)} {x : Nat × Int} {va v' : Value} (h : Frm (fun k => k = B + 1 ∨ tv.ownBlock = some k) W1 X) (hva : X.heap[B + 1]? = some (.cells #[va] 79 (0, 0))) (hown : X.ownsRow tb 81 2 va (todoS ns T pre up).length (cellsS (todoS ns T pre up))) (hvb : va.ownBlock = tv.ownBlock ∨ ∃ g, va.ownBlock = some g ∧ W1.heap.size ≤ g) (hxi : inN ns x.2 = true)
    (o : Obj) (hY : Y.ownsRow tb 81 2 v' (todoS ns T pre up ++ [(x.2, up)]).length (cellsS (todoS ns T pre up ++ [(x.2, up)]))) (hg : (X.alloc o).grownBy Y va.ownBlock) (hb : v'.ownBlock = va.ownBlock ∨ v'.ownBlock = some (X.alloc o).heap.size) :
    KeepsOthers X (Y.setCell ⟨B + 1, 0, none⟩ v') ∧ SK ns B tb tv T up W1 (pre ++ [x]) (Y.setCell ⟨B + 1, 0, none⟩ v') ∧ Frm (fun k => k = B + 1 ∨ tv.ownBlock = some k) W1 (Y.setCell ⟨B + 1, 0, none⟩ v') := by
  have hsz := h.size
  have hvl := (Array.getElem?_eq_some_iff.1 hva).1
  have hvn : ∀ g, va.ownBlock = some g → tv.ownBlock = some g ∨ W1.heap.size ≤ g := fun g e => by
    rcases hvb with e2 | ⟨g', e2, h2⟩
    · exact .inl (e2 ▸ e)
    · rw [e2] at e; cases e; exact .inr h2
  have hvne : va.ownBlock ≠ some (B + 1) := row_neD hown hva (by decide)
  have hcl : ∀ (j : Nat) (ob : Obj), va.ownBlock = some j → (X.alloc o).heap[j]? = some ob → ob.isCells = true := fun j ob e hob => by
    rcases hown.2 with ⟨e3, _⟩ | ⟨g', cap, cur, e3, _, hcur, _⟩
    · rw [e3] at e; cases e
    · rw [e3] at e
      simp [Value.ownBlock] at e
      subst e
      rw [Below.heap_alloc _ _ _ (Array.getElem?_eq_some_iff.1 hcur).1, hcur] at hob
      cases hob
      rfl
  have hYB : Y.heap[B + 1]? = some (.cells #[va] 79 (0, 0)) := (hg.block _ (by rw [World.size_alloc]; omega) (fun e => hvne e.symm)).trans ((Below.heap_alloc _ _ _ hvl).trans hva)
  have hv'ne : v'.ownBlock ≠ some (B + 1) := row_neD hY hYB (by decide)
  have f1 : Frm (fun k => va.ownBlock = some k) X Y := (Frm.alloc _ X o).trans (Frm.grown hg (fun k e => e))
  have f2 : Frm (fun k => k = B + 1) Y (Y.setCell ⟨B + 1, 0, none⟩ v') := Frm.set _ rfl
  have f3 : Frm (fun k => k = B + 1 ∨ va.ownBlock = some k) X (Y.setCell ⟨B + 1, 0, none⟩ v') := (f1.mono (fun k e => .inr e)).trans (f2.mono (fun k e => .inl e))
  refine ⟨?_, ?_, ?_⟩
  · exact ((KeepsOthers.of_grownBy (row := none) (World.grownBy_alloc X o none) (fun _ _ e => by cases e)).trans (KeepsOthers.of_grownBy hg hcl)).trans (KeepsOthers.setCell _ _ _)
  · refine ⟨?_, v', heap_setCell_same _ _ 0 _ _ _ hYB, ?_, ?_⟩
    · exact h.trans' f3 (fun k e => by rcases e with e | e; exact .inl (.inl e); rcases hvn k e with e2 | e2; exact .inl (.inr e2); exact .inr e2)
    · have e : todoS ns T (pre ++ [x]) up = todoS ns T pre up ++ [(x.2, up)] := by unfold todoS; rw [List.filter_append, List.map_append, List.append_assoc]; simp [hxi]
      rw [e]
      exact f2.own hY (fun k e1 e2 => hv'ne (e2 ▸ e1))
    · rcases hb with e | e
      · rw [e]; exact hvb
      · exact .inr ⟨_, e, by rw [World.size_alloc]; omega⟩
  · exact h.trans' f3 (fun k e => by rcases e with e | e; exact .inl (.inl e); rcases hvn k e with e2 | e2; exact .inl (.inr e2); exact .inr e2)
set_option maxRecDepth 100000 in
set_option maxHeartbeats 4000000 in
theorem stk_any (tb : Nat) (tv : Value) (T : List (Int × Int)) (n up : Int) (W : World) (hd : DocM base D v qk ns W) (ho : W.ownsRow tb 81 2 tv T.length (cellsS T)) (htb : tb ≤ W.heap.size) (hdis : ∀ k, DB D v ns k → tv.ownBlock ≠ some k) (hk : ∀ c ∈ kdN ns n, inN ns c = true) (hlen : T.length + (kdN ns n).length ≤ 1000000) :
    Calls Try.prog 43 #[.pointer (some ⟨D, 0, none⟩), tv, .int .i64 n, .int .i64 up] W fun e W' => ∃ tv', e = .returned tv' ∧ W'.ownsRow tb 81 2 tv' (T ++ itm (kdN ns n).reverse up).length (cellsS (T ++ itm (kdN ns n).reverse up)) ∧ Frm (fun k => tv.ownBlock = some k) W W' ∧ (tv'.ownBlock = tv.ownBlock ∨ ∃ g, tv'.ownBlock = some g ∧ W.heap.size ≤ g) := by
  refine (callsIn_wide (n := 9)).1 ?_
  refine callsIn_of_wp_marks Try.func43 rfl trivial ?_ rfl
  simp only [Try.ntmps43, List.size_toArray, List.length_cons, List.length_nil, Nat.reduceAdd, Nat.reduceSub, Array.replicate_succ, Array.replicate_zero, List.push_toArray, List.append_toArray, List.nil_append, List.cons_append]
  obtain ⟨TA, TC, rfl⟩ := own_slice ho
  obtain ⟨W0, hW0⟩ : ∃ W0, ((W.alloc (.cells #[.pointer (some ⟨D, 0, none⟩)] 23)).alloc (.cells #[.slice TA T.length TC] 79)).alloc (.cells #[.int .i64 up] 3) = W0 := ⟨_, rfl⟩
  have hb0 : Below W.heap.size W W0 := by rw [← hW0]; exact (((Below.refl _ W).alloc (Nat.le_refl _) _).alloc (by simp) _).alloc (by simp; omega) _
  have hs0 : W0.heap.size = W.heap.size + 3 := by rw [← hW0]; simp
  have k0 : W0.heap[W.heap.size]? = some (.cells #[.pointer (some ⟨D, 0, none⟩)] 23 (0, 0)) := by
    rw [← hW0, Below.heap_alloc _ _ _ (by first | (simp; done) | (simp; omega)), Below.heap_alloc _ _ _ (by simp)]
    exact heap_alloc_new W _
  have k1 : W0.heap[W.heap.size + 1]? = some (.cells #[.slice TA T.length TC] 79 (0, 0)) := by
    rw [← hW0, Below.heap_alloc _ _ _ (by simp)]
    have := heap_alloc_new (W.alloc (.cells #[.pointer (some ⟨D, 0, none⟩)] 23)) (.cells #[.slice TA T.length TC] 79)
    simpa using this
  have k2 : W0.heap[W.heap.size + 2]? = some (.cells #[.int .i64 up] 3 (0, 0)) := by
    rw [← hW0]
    have := heap_alloc_new ((W.alloc (.cells #[.pointer (some ⟨D, 0, none⟩)] 23)).alloc (.cells #[.slice TA T.length TC] 79)) (.cells #[.int .i64 up] 3)
    simpa using this
  have c0 : W0.cell? ⟨W.heap.size, 0, none⟩ = some (.pointer (some ⟨D, 0, none⟩)) := by rw [cell_of_row _ _ _ _ _ _ k0]; rfl
  have hd0 := hd.below hb0
  have KK := kids_any n W0 hd0
  obtain ⟨A, cap, e1, hle, hmx, hnil, hr, hrow⟩ := kids_form n hd0
  rw [e1] at KK hrow
  have HKK := Lib.hid KK
  obtain ⟨K, hK⟩ : ∃ K, kdN ns n = K := ⟨_, rfl⟩
  rw [hK] at HKK hr hrow hk hlen hle ⊢
  have KB := Lib.hid (back_any A cap K W0 hr)
  have HD0 := Lib.hid hd0
  have HB0 := Lib.hid hb0
  have HK0 := Lib.hid k0
  have HK1 := Lib.hid k1
  have HK2 := Lib.hid k2
  have HS0 := Lib.hid hs0
  have HO := Lib.hid ho
  have HDIS := Lib.hid hdis
  have HKI := Lib.hid hk
  have HLEN := Lib.hid hlen
  have HTB := Lib.hid htb
  have HD := Lib.hid hd
  have hAblk : ∀ ad, A = some ad → 0 < K.length → DB D v ns ad.block := by
    intro ad e hp
    subst e
    rw [← hK] at hp
    cases hin : inN ns n with
    | false => unfold kdN at hp; rw [atN_none hin] at hp; simp at hp
    | true =>
      obtain ⟨i, x, rfl, hx⟩ := inN_at hin
      rw [atN_some hx] at e1
      exact .inr (.inr ⟨i, x, hx, .inl (by rw [e1]; rfl)⟩)
  have HAB := Lib.hid hAblk
  clear hd0 hb0 k0 k1 k2 hs0 ho hdis hk hlen htb hd hr hrow hnil hle hmx KK e1 hAblk hK
  gi_wp2
  refine ⟨trivial, (callsIn_wide.2 HKK.out).mono ?_⟩
  rintro e w1 ⟨rfl, hw⟩
  rw [hw]
  clear hw w1
  gi_wp2
  refine ⟨trivial, (callsIn_wide.2 KB.out).mono ?_⟩
  rintro e W1 ⟨rfl, hS1, hb1, hs1⟩
  gi_wp2
  have q0 := (hb1.block _ (by have := HS0.out; omega)).trans HK0.out
  have q1 := (hb1.block _ (by have := HS0.out; omega)).trans HK1.out
  have q2 := (hb1.block _ (by have := HS0.out; omega)).trans HK2.out
  have hz1 : W.heap.size + 4 ≤ W1.heap.size := by have := HS0.out; omega
  have hB1 : Below W.heap.size W W1 := HB0.out.trans (hb1.mono HB0.out.size)
  have hown1 := own_keep HO.out hB1
  have far : ∀ X, Frm (fun k => k = W.heap.size + 1 ∨ (Value.slice TA T.length TC).ownBlock = some k) W1 X → X.heap[W.heap.size]? = some (.cells #[.pointer (some ⟨D, 0, none⟩)] 23 (0, 0)) ∧ X.heap[W.heap.size + 2]? = some (.cells #[.int .i64 up] 3 (0, 0)) ∧ DocM base D v qk ns X ∧ SrcB W0.heap.size A cap K X ∧ Below W0.heap.size W0 W1 := by
    intro X hX
    have htl : ∀ k, (Value.slice TA T.length TC).ownBlock = some k → k < W.heap.size := fun k e => (HO.out.lt k e).2
    have hs0 := HS0.out
    refine ⟨(hX.block _ (by omega) (fun e => by rcases e with e | e; omega; have := htl _ e; omega)).trans q0, (hX.block _ (by omega) (fun e => by rcases e with e | e; omega; have := htl _ e; omega)).trans q2, (HD.out.below hB1).keep hX (fun k hk e => by rcases e with e | e; have := (HD.out.in_ k hk).2; omega; exact HDIS.out k hk e), ⟨(hX.block _ (by have := (Array.getElem?_eq_some_iff.1 hS1.box).1; omega) (fun e => by rcases e with e | e; omega; have := htl _ e; omega)).trans hS1.box, ?_⟩, hb1⟩
    by_cases hx : 0 < K.length
    · obtain ⟨b, off, hA, hbl, hc⟩ := hS1.rd.pos hx
      have hdb := HAB.out _ hA hx
      have hnb : ¬ (b = W.heap.size + 1 ∨ (Value.slice TA T.length TC).ownBlock = some b) := fun e => by
        rcases e with e | e
        · have := (HD.out.in_ b hdb).2; omega
        · exact HDIS.out b hdb e
      exact .inr ⟨b, off, hA, Nat.lt_of_lt_of_le hbl hX.size, fun i hi => (World.cell?_of_block (a := ⟨b, off + i, none⟩) (hX.block b hbl hnb)).trans (hc i hi)⟩
    · exact .inl (List.eq_nil_of_length_eq_zero (by omega))
  have FAR := Lib.hid far
  have HS1 := Lib.hid hS1
  have HZ1 := Lib.hid hz1
  have HQ1 := Lib.hid q1
  have HBB1 := Lib.hid hB1
  have HOWN1 := Lib.hid hown1
  have hklen : K.length ≤ 1000000 := by have := HLEN.out; omega
  clear far hS1 hz1 q0 q1 q2 hb1 hs1 hB1 hown1 c0 HKK KB HK0 HK1 HK2
  refine wpIn_rangeFunc_ownF (F := Fence.wide) (n := 9) rfl (by omega) (gf := 93) (lb := #[.pointer (some ⟨W0.heap.size, 0, none⟩)]) rfl trivial (enters_of Try.func93 (by kernel_rfl) rfl)
    (back_stops 8 (by omega) K W0.heap.size A cap hklen W1 HS1.out) srcB_kt (fun W l o o' _ h1 h2 _ => srcB_kb0 W l o o' h1 h2) (Below.refl _ _) (fun _ => rfl)
    (fun pre X => SK ns W.heap.size tb (.slice TA T.length TC) T up W1 pre X)
    (fun c pre X => False)
    (SK.own (by have := HZ1.out; omega))
    (fun c s X Y row hs hg hr => hs.elim)
    ⟨Frm.refl _ _, _, HQ1.out, by unfold todoS; simpa using HOWN1.out, .inl rfl⟩
    ?a1 ?assign ?body ?done ?stop
  case assign =>
    intro l x X K hK
    gi_wp2
    exact hK
  case stop =>
    rintro D2 c pre X hD hpre hX hK
    exact hX.elim
  case body =>
    rintro l pre x X ⟨hfr, va, hbx, hown, hvb⟩ hpl
    obtain ⟨x0, x2, hdX, hsX, _⟩ := FAR.out X hfr
    have c0 : X.cell? ⟨W.heap.size, 0, none⟩ = some (.pointer (some ⟨D, 0, none⟩)) := by rw [cell_of_row _ _ _ _ _ _ x0]; rfl
    have c1 : X.cell? ⟨W.heap.size + 1, 0, none⟩ = some va := by rw [cell_of_row _ _ _ _ _ _ hbx]; rfl
    have c2 : X.cell? ⟨W.heap.size + 1 + 1, 0, none⟩ = some (.int .i64 up) := by rw [cell_of_row _ _ _ _ _ _ x2]; rfl
    obtain ⟨GA, GC, rfl⟩ := own_slice hown
    have KH := has_any x.2 X hdX
    have HFR := Lib.hid hfr
    have HBX := Lib.hid hbx
    have HOWN := Lib.hid hown
    have HVB := Lib.hid hvb
    have HSX := Lib.hid hsX
    cases hxi : inN ns x.2 with
    | true =>
      rw [hxi] at KH
      have HXI := Lib.hid hxi
      have HKH := Lib.hid KH
      have hfacts : ∀ (v9 : Value) (w9 : World), w9.ownsRow tb 81 2 v9 (todoS ns T pre up ++ [(x.2, up)]).length (cellsS (todoS ns T pre up ++ [(x.2, up)])) → (X.alloc (.cells #[.int .i64 x.2, .int .i64 up] 81)).grownBy w9 (Value.slice GA (todoS ns T pre up).length GC).ownBlock → (v9.ownBlock = (Value.slice GA (todoS ns T pre up).length GC).ownBlock ∨ v9.ownBlock = some (X.alloc (.cells #[.int .i64 x.2, .int .i64 up] 81)).heap.size) →
          w9.cell? ⟨W.heap.size + 1, 0, none⟩ = some (.slice GA (todoS ns T pre up).length GC) ∧ w9.frozen? ⟨W.heap.size + 1, 0, none⟩ = false ∧ KeepsOthers X (w9.setCell ⟨W.heap.size + 1, 0, none⟩ v9) ∧ (SrcB W0.heap.size A cap K X → SrcB W0.heap.size A cap K (w9.setCell ⟨W.heap.size + 1, 0, none⟩ v9)) ∧ SK ns W.heap.size tb (.slice TA T.length TC) T up W1 (pre ++ [x]) (w9.setCell ⟨W.heap.size + 1, 0, none⟩ v9) := by
        intro v9 w9 h1 h2 h3
        obtain ⟨g1, g2, g3⟩ := sk_go (x := x) HFR.out HBX.out HOWN.out HVB.out HXI.out _ h1 h2 h3
        have hb9 : w9.heap[W.heap.size + 1]? = some (.cells #[.slice GA (todoS ns T pre up).length GC] 79 (0, 0)) := (h2.block _ (by rw [World.size_alloc]; have := (Array.getElem?_eq_some_iff.1 HBX.out).1; omega) (fun e => row_neD HOWN.out HBX.out (by decide) e.symm)).trans ((Below.heap_alloc _ _ _ (Array.getElem?_eq_some_iff.1 HBX.out).1).trans HBX.out)
        exact ⟨by rw [cell_of_row _ _ _ _ _ _ hb9]; rfl, by simp [World.frozen?, hb9], g1, fun _ => (FAR.out _ g3).2.2.2.1, g2⟩
      have HFA := Lib.hid hfacts
      have hpl2 : (todoS ns T pre up).length + 1 ≤ 10000000 := by
        unfold todoS
        rw [List.length_append, List.length_map]
        have := List.length_filter_le (fun x : Nat × Int => inN ns x.2) pre
        have := HLEN.out
        omega
      have hzx : tb ≤ X.heap.size + 1 := by have := HTB.out; have := HBB1.out.size; have := HFR.out.size; omega
      clear hfr hbx hown hvb hsX hdX x0 x2 hfacts KH hxi hpl
      gi_wp2_with (first | (refine ⟨trivial, ?_⟩; gi_at_call 35; refine (callsIn_wide.2 HKH.out).mono ?_; rintro e w' ⟨rfl, rfl⟩) | (gi_at_builtin; refine wpListIn_append_stg rfl rfl tb (.slice GA (todoS ns T pre up).length GC) (todoS ns T pre up) rfl (HOWN.out.alloc _) _ x.2 up rfl (heap_alloc_new _ _) hpl2 (by rw [World.size_alloc]; exact hzx) ?_; intro v9 w9 ho9 hg9 hl9; obtain ⟨y1, y2, y3, y4, y5⟩ := HFA.out v9 w9 ho9 hg9 hl9; obtain ⟨G9, k9, rfl⟩ := own_slice ho9; have HY := Lib.hid (And.intro y3 (And.intro y4 y5)); clear y3 y4 y5 ho9 hg9 hl9))
      have hfin := HY.out
      simp only [List.length_append, List.length_cons, List.length_nil, Nat.zero_add] at hfin
      exact hfin
    | false =>
      rw [hxi] at KH
      have HKH := Lib.hid KH
      have hfin : SK ns W.heap.size tb (.slice TA T.length TC) T up W1 (pre ++ [x]) X := by
        refine ⟨HFR.out, _, HBX.out, ?_, HVB.out⟩
        have e : todoS ns T (pre ++ [x]) up = todoS ns T pre up := by unfold todoS; rw [List.filter_append]; simp [hxi]
        rw [e]
        exact HOWN.out
      have HFIN := Lib.hid hfin
      clear hfr hbx hown hvb hsX hdX x0 x2 KH hxi hpl hfin
      gi_wp2_with (refine ⟨trivial, ?_⟩; gi_at_call 35; refine (callsIn_wide.2 HKH.out).mono ?_; rintro e w' ⟨rfl, rfl⟩)
      exact ⟨ko_refl _, fun h => h, HFIN.out⟩
  case done =>
    rintro D2 ys X hD rfl ⟨hfr, va, hbx, hown, hvb⟩ hK
    have c1 : X.cell? ⟨W.heap.size + 1, 0, none⟩ = some va := by rw [cell_of_row _ _ _ _ _ _ hbx]; rfl
    unfold todoS at hown
    rw [rvp_all HKI.out] at hown
    have hz1 := HZ1.out
    have hfX : Frm (fun k => (Value.slice TA T.length TC).ownBlock = some k) W (X.putObj D2 (.deferred none)) := by
      have h1 : Frm (fun k => k = W.heap.size + 1 ∨ (Value.slice TA T.length TC).ownBlock = some k) W1 (X.putObj D2 (.deferred none)) := hfr.trans' (Frm.grown (S := fun k => k = D2) (grownBy_putObj' X D2 _) (fun k e => by cases e; rfl)) (fun k e => .inr (by omega))
      exact (Frm.below HBB1.out).trans' h1 (fun k e => by rcases e with e | e; exact .inr (by omega); exact .inl e)
    have hown2 : (X.putObj D2 (.deferred none)).ownsRow tb 81 2 va (T ++ itm K.reverse up).length (cellsS (T ++ itm K.reverse up)) := own_far hown (grownBy_putObj' X D2 _) (fun g e1 e2 => by
      cases e2
      rcases hown.2 with ⟨e, _⟩ | ⟨g', cap, cur, e, _, hcur, _⟩
      · rw [e] at e1; cases e1
      · rw [e] at e1
        simp [Value.ownBlock] at e1
        subst e1
        rw [hK] at hcur
        cases hcur)
    have HFIN : Hid (∃ tv', va = tv' ∧ (X.putObj D2 (.deferred none)).ownsRow tb 81 2 tv' (T ++ itm K.reverse up).length (cellsS (T ++ itm K.reverse up)) ∧ Frm (fun k => (Value.slice TA T.length TC).ownBlock = some k) W (X.putObj D2 (.deferred none)) ∧ (tv'.ownBlock = (Value.slice TA T.length TC).ownBlock ∨ ∃ g, tv'.ownBlock = some g ∧ W.heap.size ≤ g)) :=
      Lib.hid ⟨va, rfl, hown2, hfX, by rcases hvb with e | ⟨g, e, h⟩; exact .inl e; exact .inr ⟨g, e, by omega⟩⟩
    have HKD := Lib.hid hK
    obtain ⟨GA, GC, rfl⟩ := own_slice hown
    clear hfr hbx hown hvb hfX hown2 hK
    gi_wp2
    refine ⟨by simp, .inl ⟨_, _, rfl, run_takeDeferred HKD.out, ?_⟩⟩
    obtain ⟨tv', rfl, h1, h2, h3⟩ := HFIN.out
    refine ⟨_, ?_, _, rfl, h1, h2, h3⟩
    simp [results, Try.f43, go_sem]
end
end Go.Proofs.Ytodlcfhkiilpgaa
