/- Copying what stands beneath a node, plain: there is such a copying, and it is the same. -/
import Derived.Test.YtodlcfhkiilpgaaJm
import Derived.Test.YtodlcfhkiilpgaaJc
namespace Go.Proofs.Ytodlcfhkiilpgaa
open Go.RowKit Go.Shelf Go.Lib

/-- copying: what is to do (a node, the one beneath which its copy goes), from a number on: which copies there are (and what stands above each), the nodes that come -/
def itm (ks : List Int) (u : Int) : List (Int × Int) := ks.map (fun k => (k, u))
inductive Tk (ns : List Nd) : Nat → List (Int × Int) → List (Nat × Int) → List Nd → Prop
  | nil {m} : Tk ns m [] [] []
  | plain {m k up rest L N x} : ns[k.toNat]? = some x → inN ns k = true → tplB x = false → Tk ns (m + 1) (itm x.kids m ++ rest) L N → Tk ns m ((k, up) :: rest) ((m, up) :: L) (aloneNd x none 0 :: N)
  | tpl {m k up rest L N x} : ns[k.toNat]? = some x → inN ns k = true → tplB x = true → Tk ns (m + 2) (itm x.kids m ++ (itm (kdN ns (innN ns k)) ((m + 1 : Nat) : Int) ++ rest)) L N → Tk ns m ((k, up) :: rest) ((m, up) :: L) ({ aloneNd x none 0 with inner := ((m + 1 : Nat) : Int) } :: pageNd :: N)
theorem Tk.split {ns : List Nd} {m : Nat} {I : List (Int × Int)} {L : List (Nat × Int)} {N : List Nd} (h : Tk ns m I L N) : ∀ A B, I = A ++ B → ∃ L1 N1 L2 N2, L = L1 ++ L2 ∧ N = N1 ++ N2 ∧ Tk ns m A L1 N1 ∧ Tk ns (m + N1.length) B L2 N2 := by
  induction h with
  | nil =>
    intro A B e
    have h1 := congrArg List.length e
    simp only [List.length_nil, List.length_append] at h1
    obtain rfl := List.eq_nil_of_length_eq_zero (l := A) (by omega)
    obtain rfl := List.eq_nil_of_length_eq_zero (l := B) (by omega)
    exact ⟨[], [], [], [], rfl, rfl, .nil, .nil⟩
  | @plain m k up rest L N x h1 h2 h3 h4 ih =>
    intro A B e
    cases A with
    | nil => exact ⟨[], [], _, _, rfl, rfl, .nil, by rw [List.nil_append] at e; rw [← e]; exact .plain h1 h2 h3 h4⟩
    | cons p A =>
      simp only [List.cons_append, List.cons.injEq] at e
      obtain ⟨rfl, rfl⟩ := e
      obtain ⟨L1, N1, L2, N2, rfl, rfl, g1, g2⟩ := ih (itm x.kids m ++ A) B (by rw [List.append_assoc])
      exact ⟨_ :: L1, _ :: N1, L2, N2, rfl, rfl, .plain h1 h2 h3 g1, by rw [List.length_cons, show m + (N1.length + 1) = m + 1 + N1.length by omega]; exact g2⟩
  | @tpl m k up rest L N x h1 h2 h3 h4 ih =>
    intro A B e
    cases A with
    | nil => exact ⟨[], [], _, _, rfl, rfl, .nil, by rw [List.nil_append] at e; rw [← e]; exact .tpl h1 h2 h3 h4⟩
    | cons p A =>
      simp only [List.cons_append, List.cons.injEq] at e
      obtain ⟨rfl, rfl⟩ := e
      obtain ⟨L1, N1, L2, N2, rfl, rfl, g1, g2⟩ := ih (itm x.kids m ++ (itm (kdN ns (innN ns k)) ((m + 1 : Nat) : Int) ++ A)) B (by simp only [List.append_assoc])
      exact ⟨_ :: L1, _ :: _ :: N1, L2, N2, rfl, rfl, .tpl h1 h2 h3 g1, by rw [List.length_cons, List.length_cons, show m + (N1.length + 1 + 1) = m + 2 + N1.length by omega]; exact g2⟩
/-- the numbers of the copies, and what stands above them -/
theorem Tk.nums {ns : List Nd} {m : Nat} {I : List (Int × Int)} {L : List (Nat × Int)} {N : List Nd} (h : Tk ns m I L N) : ∀ p ∈ L, (m ≤ p.1 ∧ p.1 < m + N.length) ∧ ((∃ q ∈ I, q.2 = p.2) ∨ ((m : Int) ≤ p.2 ∧ p.2 < ((m + N.length : Nat) : Int))) := by
  induction h with
  | nil => intro p hp; cases hp
  | @plain m k up rest L N x h1 h2 h3 h4 ih =>
    intro p hp
    rcases List.mem_cons.1 hp with rfl | hp
    · exact ⟨by simp, .inl ⟨_, List.mem_cons_self .., rfl⟩⟩
    · obtain ⟨a1, a2⟩ := ih p hp
      rw [List.length_cons]
      refine ⟨by omega, ?_⟩
      rcases a2 with ⟨q, hq, e⟩ | a2
      · rcases List.mem_append.1 hq with hq | hq
        · unfold itm at hq
          obtain ⟨z, _, rfl⟩ := List.mem_map.1 hq
          simp only at e
          exact .inr (by omega)
        · exact .inl ⟨q, List.mem_cons_of_mem _ hq, e⟩
      · exact .inr (by omega)
  | @tpl m k up rest L N x h1 h2 h3 h4 ih =>
    intro p hp
    rcases List.mem_cons.1 hp with rfl | hp
    · exact ⟨by simp, .inl ⟨_, List.mem_cons_self .., rfl⟩⟩
    · obtain ⟨a1, a2⟩ := ih p hp
      rw [List.length_cons, List.length_cons]
      refine ⟨by omega, ?_⟩
      rcases a2 with ⟨q, hq, e⟩ | a2
      · rcases List.mem_append.1 hq with hq | hq
        · unfold itm at hq
          obtain ⟨z, _, rfl⟩ := List.mem_map.1 hq
          simp only at e
          exact .inr (by omega)
        · rcases List.mem_append.1 hq with hq | hq
          · unfold itm at hq
            obtain ⟨z, _, rfl⟩ := List.mem_map.1 hq
            simp only at e
            exact .inr (by omega)
          · exact .inl ⟨q, List.mem_cons_of_mem _ hq, e⟩
      · exact .inr (by omega)
/-- the copies that go beneath one -/
def ck (L : List (Nat × Int)) (u : Int) : List Int := (L.filter (fun p => p.2 == u)).map (fun p => (p.1 : Int))
theorem ck_app (L M : List (Nat × Int)) (u : Int) : ck (L ++ M) u = ck L u ++ ck M u := by unfold ck; rw [List.filter_append, List.map_append]
theorem ck_none {L : List (Nat × Int)} {u : Int} (h : ∀ p ∈ L, p.2 ≠ u) : ck L u = [] := by
  unfold ck
  rw [List.filter_eq_nil_iff.2 (fun p hp => by simpa using h p hp)]
  rfl
theorem ck_yes (j : Nat) (L : List (Nat × Int)) (u : Int) : ck ((j, u) :: L) u = (j : Int) :: ck L u := by unfold ck; simp
theorem ck_no {j : Nat} {L : List (Nat × Int)} {u v : Int} (h : v ≠ u) : ck ((j, v) :: L) u = ck L u := by unfold ck; simp [h]
/-- what a node of the tree that was copied into is, behind all: as it was made, but for where it stands, and what stands beneath it -/
def Lk (y z : Nd) : Prop := y.kind = z.kind ∧ y.space = z.space ∧ y.name = z.name ∧ y.data = z.data ∧ y.attrs = z.attrs ∧ y.pub = z.pub ∧ y.sys = z.sys ∧ y.inner = z.inner
theorem sm_refl (a : ByteArray) : sm a a = true := by unfold sm; simp
theorem ndS_of {x y : Nd} (h1 : x.kind = y.kind) (h2 : x.space = y.space) (h3 : x.name = y.name) (h4 : x.data = y.data) (h5 : x.attrs = y.attrs) (h6 : x.pub = y.pub) (h7 : x.sys = y.sys) : ndS x y = true := by
  unfold ndS
  rw [h1, h2, h3, h4, h5, h6, h7, sm_refl, sm_refl, sm_refl, sm_refl]
  simp
theorem inN_nat {ns : List Nd} {i : Nat} {x : Nd} (hx : ns[i]? = some x) : inN ns i = true := by
  have := (List.getElem?_eq_some_iff.1 hx).1
  unfold inN
  rw [decide_eq_true (by omega), decide_eq_true (by omega)]
  rfl
theorem atN_nat {β : Type} {ns : List Nd} {i : Nat} {x : Nd} {f : Nd → β} {d : β} (h : ns[i]? = some x) : atN ns i f d = f x := by
  unfold atN
  rw [inN_nat h, if_pos rfl, Int.toNat_natCast, h]
  rfl
/-- what is asked of the tree that is copied: contents are templates', and pages are blank -/
def Cn (ns : List Nd) : Prop := ∀ (i : Nat) x, ns[i]? = some x → (tplB x = false → innN ns i = -1) ∧ (tplB x = true → ∃ (j : Nat) (y : Nd), innN ns i = j ∧ ns[j]? = some y ∧ ndS y pageNd = true ∧ innN ns j = -1)
theorem Tk.cp {ns ys : List Nd} (hc : Cn ns) (Lall : List (Nat × Int)) : ∀ (s m : Nat) (ks : List Int) (u : Int) (L : List (Nat × Int)) (N : List Nd), L.length ≤ s → Tk ns m (itm ks u) L N → u < m → 0 < m →
    (∀ j : Nat, m ≤ j → j < m + N.length → ck Lall j = ck L j) → (∀ (q : Nat) z, N[q]? = some z → ∃ y, ys[m + q]? = some y ∧ Lk y z ∧ y.kids = ck Lall ((m + q : Nat) : Int)) → Cp ns ys ks (ck L u) N.length := by
  intro s
  induction s with
  | zero =>
    intro m ks u L N hl h _ _ _ _
    cases ks with
    | nil => cases h; exact .nil
    | cons k ks => cases h <;> simp at hl
  | succ s ih =>
    intro m ks u L N hl h hu hm hck hys
    cases ks with
    | nil => cases h; exact .nil
    | cons k ks =>
      have key : ∀ (w : Nat) (x : Nd) (L' : List (Nat × Int)) (N' : List Nd) (y : Nd), ns[k.toNat]? = some x → inN ns k = true → 1 ≤ w → L = (m, u) :: L' → N.length = w + N'.length → (∀ q z, N'[q]? = some z → N[w + q]? = some z) →
          ys[m]? = some y → ndS x y = true → y.kids = ck Lall (m : Int) → innL ys (m : Int) = (if w = 1 then [] else [((m + 1 : Nat) : Int)]) →
          ∀ (ik : List Int), Tk ns (m + w) (itm x.kids m ++ (itm ik ((m + 1 : Nat) : Int) ++ itm ks u)) L' N' → w ≤ 2 → (w = 1 → ik = []) →
          (w = 2 → ∃ y2, ys[m + 1]? = some y2 ∧ ∃ x2, innL ns k = [innN ns k] ∧ ns[(innN ns k).toNat]? = some x2 ∧ inN ns (innN ns k) = true ∧ ndS x2 y2 = true ∧ x2.kids = ik ∧ y2.kids = ck Lall ((m + 1 : Nat) : Int) ∧ innL ns (innN ns k) = [] ∧ innL ys ((m + 1 : Nat) : Int) = []) →
          (w = 1 → innL ns k = []) → Cp ns ys (k :: ks) (ck L u) N.length := by
        intro w x L' N' y hx hk hw hL hN hN' hy ha hyk hiy ik h w2 hw1 hw2 hiw1
        obtain ⟨L1, N1, L23, N23, rfl, rfl, h1, h23⟩ := h.split _ _ rfl
        obtain ⟨L2, N2, L3, N3, rfl, rfl, h2, h3⟩ := h23.split _ _ rfl
        have n1 := h1.nums
        have n2 := h2.nums
        have n3 := h3.nums
        rw [hL, List.length_cons, List.length_append, List.length_append] at hl
        rw [List.length_append, List.length_append] at hN
        have itmU : ∀ (ks : List Int) (u : Int) (q : Int × Int), q ∈ itm ks u → q.2 = u := by
          intro ks u q hq
          unfold itm at hq
          obtain ⟨z, _, rfl⟩ := List.mem_map.1 hq
          rfl
        have U1 : ∀ p ∈ L1, p.2 = m ∨ (((m + w : Nat) : Int) ≤ p.2 ∧ p.2 < ((m + w + N1.length : Nat) : Int)) := fun p hp => by
          rcases (n1 p hp).2 with ⟨q, hq, e⟩ | e
          · exact .inl (by rw [← e]; exact itmU _ _ _ hq)
          · exact .inr e
        have L2nil : w = 1 → L2 = [] ∧ N2 = [] := fun e => by
          rw [hw1 e] at h2
          cases h2
          exact ⟨rfl, rfl⟩
        have U2 : ∀ p ∈ L2, (p.2 = ((m + 1 : Nat) : Int) ∧ w = 2) ∨ (((m + w + N1.length : Nat) : Int) ≤ p.2 ∧ p.2 < ((m + w + N1.length + N2.length : Nat) : Int)) := fun p hp => by
          rcases (n2 p hp).2 with ⟨q, hq, e⟩ | e
          · refine .inl ⟨by rw [← e]; exact itmU _ _ _ hq, ?_⟩
            rcases Nat.lt_or_ge w 2 with h9 | h9
            · rw [(L2nil (by omega)).1] at hp; cases hp
            · omega
          · exact .inr e
        have U3 : ∀ p ∈ L3, p.2 = u ∨ (((m + w + N1.length + N2.length : Nat) : Int) ≤ p.2) := fun p hp => by
          rcases (n3 p hp).2 with ⟨q, hq, e⟩ | e
          · exact .inl (by rw [← e]; exact itmU _ _ _ hq)
          · exact .inr (by omega)
        -- what goes beneath each
        have cu : ck L u = (m : Int) :: ck L3 u := by
          rw [hL, ck_yes, ck_app, ck_app, ck_none (L := L1) (fun p hp e => by rcases U1 p hp with h | h <;> omega), ck_none (L := L2) (fun p hp e => by rcases U2 p hp with h | h <;> omega)]
          rfl
        have cm : ck Lall (m : Int) = ck L1 (m : Int) := by
          rw [hck m (Nat.le_refl _) (by omega), hL, ck_no (by omega), ck_app, ck_app, ck_none (L := L2) (fun p hp e => by rcases U2 p hp with h | h <;> omega), ck_none (L := L3) (fun p hp e => by rcases U3 p hp with h | h <;> omega)]
          simp
        have c1 : ∀ j : Nat, m + w ≤ j → j < m + w + N1.length → ck Lall j = ck L1 j := fun j ha hb => by
          rw [hck j (by omega) (by omega), hL, ck_no (by omega), ck_app, ck_app, ck_none (L := L2) (fun p hp e => by rcases U2 p hp with h | h <;> omega), ck_none (L := L3) (fun p hp e => by rcases U3 p hp with h | h <;> omega)]
          simp
        have c2 : ∀ j : Nat, m + w + N1.length ≤ j → j < m + w + N1.length + N2.length → ck Lall j = ck L2 j := fun j ha hb => by
          rw [hck j (by omega) (by omega), hL, ck_no (by omega), ck_app, ck_app, ck_none (L := L1) (fun p hp e => by rcases U1 p hp with h | h <;> omega), ck_none (L := L3) (fun p hp e => by rcases U3 p hp with h | h <;> omega)]
          simp
        have c3 : ∀ j : Nat, m + w + N1.length + N2.length ≤ j → j < m + w + N1.length + N2.length + N3.length → ck Lall j = ck L3 j := fun j ha hb => by
          rw [hck j (by omega) (by omega), hL, ck_no (by omega), ck_app, ck_app, ck_none (L := L1) (fun p hp e => by rcases U1 p hp with h | h <;> omega), ck_none (L := L2) (fun p hp e => by rcases U2 p hp with h | h <;> omega)]
          simp
        have y1 : ∀ (q : Nat) z, N1[q]? = some z → ∃ y, ys[m + w + q]? = some y ∧ Lk y z ∧ y.kids = ck Lall ((m + w + q : Nat) : Int) := fun q z hq => by
          have hlt := (List.getElem?_eq_some_iff.1 hq).1
          have := hys (w + q) z (hN' q z (by rw [List.getElem?_append_left hlt]; exact hq))
          rwa [← Nat.add_assoc] at this
        have y2 : ∀ (q : Nat) z, N2[q]? = some z → ∃ y, ys[m + w + N1.length + q]? = some y ∧ Lk y z ∧ y.kids = ck Lall ((m + w + N1.length + q : Nat) : Int) := fun q z hq => by
          have hlt := (List.getElem?_eq_some_iff.1 hq).1
          have := hys (w + (N1.length + q)) z (hN' _ z (by rw [List.getElem?_append_right (by omega), Nat.add_sub_cancel_left, List.getElem?_append_left hlt]; exact hq))
          rwa [show m + (w + (N1.length + q)) = m + w + N1.length + q by omega] at this
        have y3 : ∀ (q : Nat) z, N3[q]? = some z → ∃ y, ys[m + w + N1.length + N2.length + q]? = some y ∧ Lk y z ∧ y.kids = ck Lall ((m + w + N1.length + N2.length + q : Nat) : Int) := fun q z hq => by
          have hlt := (List.getElem?_eq_some_iff.1 hq).1
          have := hys (w + (N1.length + (N2.length + q))) z (hN' _ z (by rw [List.getElem?_append_right (by omega), Nat.add_sub_cancel_left, List.getElem?_append_right (by omega), Nat.add_sub_cancel_left]; exact hq))
          rwa [show m + (w + (N1.length + (N2.length + q))) = m + w + N1.length + N2.length + q by omega] at this
        have r1 := ih (m + w) x.kids m L1 N1 (by omega) h1 (by omega) (by omega) c1 y1
        have r3 := ih (m + w + N1.length + N2.length) ks u L3 N3 (by omega) h3 (by omega) (by omega) c3 y3
        rw [cu, hN]
        rw [← cm, ← hyk] at r1
        by_cases e1 : w = 1
        · obtain ⟨rfl, rfl⟩ := L2nil e1
          have r2 : Cp ns ys (innL ns k) (innL ys (m : Int)) 0 := by rw [hiw1 e1, hiy, if_pos e1]; exact .nil
          have := Cp.cons hx (j := (m : Int)) (by rw [Int.toNat_natCast]; exact hy) hk (inN_nat hy) ha r1 r2 r3
          rw [show w + (N1.length + (([] : List Nd).length + N3.length)) = 1 + N1.length + 0 + N3.length by rw [List.length_nil]; omega]
          exact this
        · have e2 : w = 2 := by omega
          obtain ⟨z2, hz2, x2, hi0, hx2, hk2, ha2, hik, hzk, hi1, hi2⟩ := hw2 e2
          have r2 := ih (m + w + N1.length) ik ((m + 1 : Nat) : Int) L2 N2 (by omega) h2 (by omega) (by omega) c2 y2
          have cm1 : ck Lall ((m + 1 : Nat) : Int) = ck L2 ((m + 1 : Nat) : Int) := by
            rw [hck (m + 1) (by omega) (by omega), hL, ck_no (by omega), ck_app, ck_app, ck_none (L := L1) (fun p hp e => by rcases U1 p hp with h | h <;> omega), ck_none (L := L3) (fun p hp e => by rcases U3 p hp with h | h <;> omega)]
            simp
          rw [← cm1, ← hzk, ← hik] at r2
          have r4 : Cp ns ys (innL ns k) (innL ys (m : Int)) (1 + N2.length + 0 + 0) := by
            rw [hi0, hiy, if_neg e1]
            exact Cp.cons hx2 (by rw [Int.toNat_natCast]; exact hz2) hk2 (inN_nat hz2) ha2 r2 (by rw [hi1, hi2]; exact .nil) .nil
          have := Cp.cons hx (j := (m : Int)) (by rw [Int.toNat_natCast]; exact hy) hk (inN_nat hy) ha r1 r4 r3
          rw [show w + (N1.length + (N2.length + N3.length)) = 1 + N1.length + (1 + N2.length + 0 + 0) + N3.length by omega]
          exact this
      unfold itm at h
      rw [List.map_cons] at h
      have alkA : ∀ (x y : Nd) A c, Lk y (aloneNd x A c) → ndS x y = true := fun x y A c hl => ndS_of hl.1.symm hl.2.1.symm hl.2.2.1.symm hl.2.2.2.1.symm hl.2.2.2.2.1.symm hl.2.2.2.2.2.1.symm hl.2.2.2.2.2.2.1.symm
      have innY : ∀ (j : Nat) (y : Nd), ys[j]? = some y → y.inner ≤ 0 → innL ys (j : Int) = [] := fun j y hy hi => by
        unfold innL innN
        rw [atN_nat hy, if_pos hi, if_pos rfl]
      have kk : ∃ i : Nat, k = i := by
        have : inN ns k = true := by cases h <;> assumption
        unfold inN at this
        simp only [Bool.and_eq_true, decide_eq_true_eq] at this
        exact ⟨k.toNat, by omega⟩
      obtain ⟨i, rfl⟩ := kk
      cases h with
      | @plain _ _ _ _ L' N' x h1 h2 h3 h4 =>
        obtain ⟨y, hy, hl1, hl2⟩ := hys 0 _ (List.getElem?_cons_zero ..)
        rw [Nat.add_zero] at hy hl2
        have hin := (hc i x (by rwa [Int.toNat_natCast] at h1)).1 h3
        exact key 1 x L' N' y h1 h2 (Nat.le_refl _) rfl (by rw [List.length_cons]; omega) (fun q z hq => by rw [Nat.add_comm]; exact hq) hy (alkA x y none 0 hl1) hl2 (by rw [if_pos rfl]; exact innY m y hy (by rw [hl1.2.2.2.2.2.2.2]; show (-1 : Int) ≤ 0; omega)) [] (by unfold itm at h4 ⊢; simpa using h4) (by omega) (fun _ => rfl) (fun e => by omega) (fun _ => by unfold innL; rw [hin, if_pos rfl])
      | @tpl _ _ _ _ L' N' x h1 h2 h3 h4 =>
        obtain ⟨y, hy, hl1, hl2⟩ := hys 0 _ (List.getElem?_cons_zero ..)
        rw [Nat.add_zero] at hy hl2
        obtain ⟨y2, hy2, hm1, hm2⟩ := hys 1 pageNd rfl
        obtain ⟨j, x2, hj, hx2, ha2, hi2⟩ := (hc i x (by rwa [Int.toNat_natCast] at h1)).2 h3
        have hyi : y.inner = ((m + 1 : Nat) : Int) := hl1.2.2.2.2.2.2.2
        have a1 : ndS x y = true := ndS_of hl1.1.symm hl1.2.1.symm hl1.2.2.1.symm hl1.2.2.2.1.symm hl1.2.2.2.2.1.symm hl1.2.2.2.2.2.1.symm hl1.2.2.2.2.2.2.1.symm
        have a2 : ndS x2 y2 = true := by
          have e : ndS x2 y2 = ndS x2 pageNd := by unfold ndS; rw [hm1.1, hm1.2.1, hm1.2.2.1, hm1.2.2.2.1, hm1.2.2.2.2.1, hm1.2.2.2.2.2.1, hm1.2.2.2.2.2.2.1]
          rw [e]; exact ha2
        refine key 2 x L' N' y h1 h2 (by omega) rfl (by rw [List.length_cons, List.length_cons]; omega) (fun q z hq => by rw [show 2 + q = q + 1 + 1 by omega, List.getElem?_cons_succ, List.getElem?_cons_succ]; exact hq) hy a1 hl2 ?_ (kdN ns (innN ns i)) h4 (Nat.le_refl _) (fun e => by omega) (fun _ => ?_) (fun e => by omega)
        · rw [if_neg (by omega)]
          unfold innL innN
          rw [atN_nat hy, hyi, if_neg (by omega), if_neg (by omega)]
        · refine ⟨y2, hy2, x2, ?_, by rw [hj, Int.toNat_natCast]; exact hx2, by rw [hj]; exact inN_nat hx2, a2, ?_, hm2, ?_, innY (m + 1) y2 hy2 (by rw [hm1.2.2.2.2.2.2.2]; show (-1 : Int) ≤ 0; omega)⟩
          · unfold innL
            rw [if_neg (by rw [hj]; omega)]
          · rw [hj]
            unfold kdN
            rw [atN_nat hx2]
          · unfold innL
            rw [hj, hi2, if_pos rfl]
theorem sum_two {α : Type} (C : List α) (f g : α → Nat) : (C.map (fun c => f c + g c)).sum = (C.map f).sum + (C.map g).sum := by
  induction C with
  | nil => rfl
  | cons c C ih => simp only [List.map_cons, List.sum_cons, ih]; omega
theorem sum_if {α : Type} (C : List α) (p : α → Bool) : (C.map (fun c => if p c then 1 else 0)).sum = C.countP p := by
  induction C with
  | nil => rfl
  | cons c C ih => rw [List.map_cons, List.sum_cons, ih, List.countP_cons]; omega
theorem cnt_le {α β : Type} (C : List α) (p : α → β → Bool) (q : β → Bool) (R : List β) (h : ∀ j ∈ R, C.countP (fun c => p c j) ≤ if q j then 1 else 0) : (C.map (fun c => R.countP (p c))).sum ≤ R.countP q := by
  induction R with
  | nil =>
    have : ∀ C : List α, (C.map (fun c => ([] : List β).countP (p c))).sum = 0 := by
      intro C
      induction C with
      | nil => rfl
      | cons c C ih => rw [List.map_cons, List.sum_cons, ih]; rfl
    rw [this]
    exact Nat.zero_le _
  | cons j R ih =>
    have h1 := h j (List.mem_cons_self ..)
    have h2 := ih (fun i hi => h i (List.mem_cons_of_mem _ hi))
    rw [List.countP_cons]
    have e : (C.map (fun c => (j :: R).countP (p c))).sum = (C.map (fun c => R.countP (p c))).sum + C.countP (fun c => p c j) := by
      rw [← sum_if, ← sum_two]
      congr 1
      refine List.map_congr_left fun c _ => ?_
      rw [List.countP_cons]
    omega
theorem cnt_drop {β : Type} [BEq β] [LawfulBEq β] (R : List β) (p : β → Bool) (j0 : β) (hm : j0 ∈ R) (hp : p j0 = true) : R.countP (fun j => p j && (j != j0)) + 1 ≤ R.countP p := by
  induction R with
  | nil => cases hm
  | cons j R ih =>
    rw [List.countP_cons, List.countP_cons]
    by_cases e : j = j0
    · subst e
      have hle : R.countP (fun i => p i && (i != j)) ≤ R.countP p := List.countP_mono_left (fun i _ h => by rw [Bool.and_eq_true] at h; exact h.1)
      rw [hp]
      simp
      omega
    · have := ih ((List.mem_cons.1 hm).resolve_left (fun h => e h.symm))
      have h2 : (j != j0) = true := by simpa using e
      rw [h2, Bool.and_true]
      omega
theorem cnt_one {α : Type} (C : List α) (hn : C.Nodup) (p : α → Bool) (h : ∀ a ∈ C, ∀ b ∈ C, p a = true → p b = true → a = b) : C.countP p ≤ 1 := by
  induction C with
  | nil => exact Nat.zero_le _
  | cons c C ih =>
    obtain ⟨h1, h2⟩ := List.nodup_cons.1 hn
    have := ih h2 (fun a ha b hb => h a (List.mem_cons_of_mem _ ha) b (List.mem_cons_of_mem _ hb))
    rw [List.countP_cons]
    cases hc : p c with
    | false => simp; omega
    | true =>
      have : C.countP p = 0 := by
        rw [List.countP_eq_zero]
        intro a ha hpa
        have := h c (List.mem_cons_self ..) a (List.mem_cons_of_mem _ ha) hc hpa
        subst this
        exact h1 ha
      rw [this]
      simp
/-- a number's kids, and those of its contents -/
def chA (ps : List Pl) (k : Int) : List Int := pAt ps k Pl.kids [] ++ pAt ps (pAt ps k Pl.inner (-1)) Pl.kids []
/-- whether a number stands on the way up from another one -/
noncomputable def onW (ps : List Pl) (k : Int) (j : Nat) : Bool := @decide (∃ l, Path (abv ps) (j : Int) l ∧ k ∈ l) (Classical.propDecidable _)
theorem onW_iff {ps : List Pl} {k : Int} {j : Nat} : onW ps k j = true ↔ ∃ l, Path (abv ps) (j : Int) l ∧ k ∈ l := by
  unfold onW
  exact @decide_eq_true_iff _ (Classical.propDecidable _)
/-- how many stand beneath a number, itself counted -/
noncomputable def cnT (ps : List Pl) (k : Int) : Nat := (List.range ps.length).countP (onW ps k)
theorem Tr.cnt {ps : List Pl} (h : Tr ps) {k : Nat} {x : Pl} (hx : ps[k]? = some x) : ((chA ps k).map (cnT ps)).sum + (if tplQ x = true then 2 else 1) ≤ cnT ps k := by
  have hk := (List.getElem?_eq_some_iff.1 hx).1
  have fin : ∀ (q : Nat) (y : Pl), ps[q]? = some y → ∀ c ∈ y.kids, 0 ≤ c ∧ c < ps.length ∧ abv ps c = q ∧ pAt ps c Pl.up (-1) = q := by
    intro q y hy c hc
    obtain ⟨j, z, rfl, hz, hu⟩ := h.kup q y hy c hc
    have := (List.getElem?_eq_some_iff.1 hz).1
    refine ⟨by omega, by omega, ?_, by rw [pAt_some hz, hu]⟩
    unfold abv
    rw [if_neg (by omega), pAt_some hz, hu, if_pos (by omega)]
  obtain ⟨lk, hlk⟩ := h.ac k hk
  have hkl : (k : Int) ∈ lk := by cases hlk with | cons _ _ => exact List.mem_cons_self ..
  -- one whose way up goes by a kid
  have up1 : ∀ (q : Nat), (∃ lq, Path (abv ps) (q : Int) lq ∧ (k : Int) ∈ lq) → ∀ c, 0 ≤ c → abv ps c = q → ∀ (j : Nat) l, Path (abv ps) (j : Int) l → c ∈ l → (k : Int) ∈ l ∧ (j : Int) ≠ k ∧ (j : Int) ≠ q := by
    rintro q ⟨lq, hlq, hkq⟩ c hc0 hcq j l hl hcl
    have hpc : Path (abv ps) c (c :: lq) := .cons hc0 (by rw [hcq]; exact hlq)
    have h3 := (hl.len_of hcl hpc).2.2
    have h5 := (hl.len_of hcl hpc).1
    simp only [List.length_cons] at h5
    have hlen := (hlq.len_of hkq hlk).1
    refine ⟨h3 _ (List.mem_cons_of_mem _ hkq), fun e => ?_, fun e => ?_⟩
    · rw [e] at hl
      have h4 := hl.unique hlk
      subst h4
      omega
    · rw [e] at hl
      have h4 := hl.unique hlq
      subst h4
      omega
  have hbase : ∀ (D : List Int) (q : Nat → Bool), D.Nodup → (∀ c ∈ D, ∀ (j : Nat) l, Path (abv ps) (j : Int) l → c ∈ l → q j = true) → (∀ a ∈ D, ∀ b ∈ D, ∀ (j : Nat) l, Path (abv ps) (j : Int) l → a ∈ l → b ∈ l → a = b) → (D.map (cnT ps)).sum ≤ (List.range ps.length).countP q := by
    intro D q hnd hq hone
    refine cnt_le D (onW ps) q _ fun j _ => ?_
    have h1 := cnt_one D hnd (fun c => onW ps c j) (fun a ha b hb pa pb => by
      obtain ⟨l, hl, hal⟩ := onW_iff.1 pa
      obtain ⟨l', hl', hbl⟩ := onW_iff.1 pb
      have := hl.unique hl'
      subst this
      exact hone a ha b hb j l hl hal hbl)
    cases hqj : q j with
    | true => simpa using h1
    | false =>
      have : D.countP (fun c => onW ps c j) = 0 := by
        rw [List.countP_eq_zero]
        intro c hc pc
        obtain ⟨l, hl, hcl⟩ := onW_iff.1 pc
        rw [hq c hc j l hl hcl] at hqj
        cases hqj
      rw [this]
      exact Nat.zero_le _
  have selfk : onW ps k k = true := onW_iff.2 ⟨lk, hlk, hkl⟩
  have d1 := cnt_drop (List.range ps.length) (onW ps k) k (List.mem_range.2 hk) selfk
  cases ht : tplQ x with
  | false =>
    have hin : x.inner = -1 := by
      have := (h.nm k x hx).2
      rw [ht] at this
      exact Classical.byContradiction fun e => by have := this.1 e; cases this
    have hc : chA ps k = x.kids := by unfold chA; rw [pAt_some hx, pAt_some hx, hin, pAt_neg (by omega), List.append_nil]
    rw [hc, if_neg (by simp)]
    have := hbase x.kids (fun j => onW ps k j && (j != k)) (h.nd k x hx) (fun c hcm j l hl hcl => by
      obtain ⟨f0, _, f2, _⟩ := fin k x hx c hcm
      obtain ⟨g1, g2, _⟩ := up1 k ⟨lk, hlk, hkl⟩ c f0 f2 j l hl hcl
      rw [Bool.and_eq_true]
      exact ⟨onW_iff.2 ⟨l, hl, g1⟩, by simp; omega⟩) (fun a ha b hb j l hl hal hbl => hl.one hal hbl (fin k x hx a ha).2.2.1 (fin k x hx b hb).2.2.1)
    unfold cnT at this ⊢
    omega
  | true =>
    have hne : x.inner ≠ -1 := (h.nm k x hx).2.2 ht
    obtain ⟨e, _, y, hy, hk1⟩ := (h.inn k x hx).resolve_left hne
    have hc : chA ps k = x.kids ++ y.kids := by unfold chA; rw [pAt_some hx, pAt_some hx, e, show (k : Int) + 1 = ((k + 1 : Nat) : Int) by omega, pAt_some hy]
    have hk2 := (List.getElem?_eq_some_iff.1 hy).1
    have hu := (h.pg (k + 1) y hy hk1).1
    have ha : abv ps ((k + 1 : Nat) : Int) = k := by
      unfold abv
      rw [if_neg (by omega), pAt_some hy, hu, if_neg (by omega), show ((k + 1 : Nat) : Int) - 1 = (k : Nat) by omega, pAt_some hx, e, if_pos (by omega)]
    have hl1 : Path (abv ps) ((k + 1 : Nat) : Int) (((k + 1 : Nat) : Int) :: lk) := .cons (by omega) (by rw [ha]; exact hlk)
    rw [hc, if_pos rfl]
    have d2 := cnt_drop (List.range ps.length) (fun j => onW ps k j && (j != k)) (k + 1) (List.mem_range.2 hk2) (by rw [Bool.and_eq_true]; exact ⟨onW_iff.2 ⟨_, hl1, List.mem_cons_of_mem _ hkl⟩, by simp⟩)
    have upx : pAt ps ((k + 1 : Nat) : Int) Pl.up (-1) = -1 := by rw [pAt_some hy]; exact hu
    have := hbase (x.kids ++ y.kids) (fun j => (onW ps k j && (j != k)) && (j != k + 1)) (by
      rw [List.nodup_append]
      refine ⟨h.nd k x hx, h.nd _ y hy, fun a ha b hb e => ?_⟩
      subst e
      have h1 := (fin k x hx a ha).2.2.2
      have h2 := (fin _ y hy a hb).2.2.2
      omega) (fun c hcm j l hl hcl => by
      rcases List.mem_append.1 hcm with hcm | hcm
      · obtain ⟨f0, _, f2, f3⟩ := fin k x hx c hcm
        obtain ⟨g1, g2, _⟩ := up1 k ⟨lk, hlk, hkl⟩ c f0 f2 j l hl hcl
        have g3 : j ≠ k + 1 := fun e2 => by
          subst e2
          have h4 := hl.unique hl1
          subst h4
          rcases List.mem_cons.1 hcl with e3 | e3
          · rw [e3, upx] at f3; omega
          · exact (up1 k ⟨lk, hlk, hkl⟩ c f0 f2 k lk hlk e3).2.1 rfl
        rw [Bool.and_eq_true, Bool.and_eq_true]
        exact ⟨⟨onW_iff.2 ⟨l, hl, g1⟩, by simp; omega⟩, by simpa using g3⟩
      · obtain ⟨f0, _, f2, f3⟩ := fin _ y hy c hcm
        obtain ⟨g1, g2, g3⟩ := up1 (k + 1) ⟨_, hl1, List.mem_cons_of_mem _ hkl⟩ c f0 f2 j l hl hcl
        rw [Bool.and_eq_true, Bool.and_eq_true]
        exact ⟨⟨onW_iff.2 ⟨l, hl, g1⟩, by simp; omega⟩, by simp; omega⟩) (fun a ham b hbm j l hl hal hbl => by
      have cross : ∀ a b, a ∈ x.kids → b ∈ y.kids → a ∈ l → b ∈ l → False := fun a b ham hbm hal hbl => by
        obtain ⟨f0, _, f2, f3⟩ := fin _ y hy b hbm
        have h7 : ((k + 1 : Nat) : Int) ∈ l := by
          have hpc : Path (abv ps) b (b :: (((k + 1 : Nat) : Int) :: lk)) := .cons f0 (by rw [f2]; exact hl1)
          exact (hl.len_of hbl hpc).2.2 _ (List.mem_cons_of_mem _ (List.mem_cons_self ..))
        have h8 := hl.one hal h7 (fin k x hx a ham).2.2.1 ha
        have h9 := (fin k x hx a ham).2.2.2
        rw [h8, upx] at h9
        omega
      rcases List.mem_append.1 ham with ham | ham <;> rcases List.mem_append.1 hbm with hbm | hbm
      · exact hl.one hal hbl (fin k x hx a ham).2.2.1 (fin k x hx b hbm).2.2.1
      · exact (cross a b ham hbm hal hbl).elim
      · exact (cross b a hbm ham hbl hal).elim
      · exact hl.one hal hbl (fin _ y hy a ham).2.2.1 (fin _ y hy b hbm).2.2.1)
    unfold cnT at this ⊢
    omega

theorem tplB_pl {x : Nd} (h : x.space = 0) : tplB x = tplQ x.pl := by
  unfold tplB tplQ
  rw [h]
  simp [Nd.pl]
section
variable {ns : List Nd}
theorem itm_cnt (ps : List Pl) (ks : List Int) (u : Int) : ((itm ks u).map (fun p => cnT ps p.1)).sum = (ks.map (cnT ps)).sum := by
  unfold itm
  rw [List.map_map]
  rfl
/-- there is a copying, of so many nodes at most -/
theorem Tr.tk (h : Tr (ns.map Nd.pl)) (hs : ∀ x ∈ ns, x.space = 0) : ∀ (M m : Nat) (I : List (Int × Int)), (I.map (fun p => cnT (ns.map Nd.pl) p.1)).sum ≤ M → (∀ p ∈ I, 0 ≤ p.1 ∧ p.1 < ns.length) → ∃ L N, Tk ns m I L N ∧ N.length ≤ M := by
  intro M
  induction M using Nat.strongRecOn with
  | _ M ih =>
    intro m I hM hI
    cases I with
    | nil => exact ⟨[], [], .nil, Nat.zero_le _⟩
    | cons p rest =>
      obtain ⟨k, up⟩ := p
      obtain ⟨h0, h1⟩ := hI _ (List.mem_cons_self ..)
      simp only at h0 h1
      obtain ⟨i, rfl⟩ : ∃ i : Nat, k = i := ⟨k.toNat, by omega⟩
      obtain ⟨x, hx⟩ : ∃ x, ns[i]? = some x := ⟨_, List.getElem?_eq_getElem (by omega)⟩
      have hx' : (ns.map Nd.pl)[i]? = some x.pl := by rw [List.getElem?_map, hx]; rfl
      have hc := h.cnt hx'
      have hsp := hs x (List.mem_of_getElem? hx)
      have fin : ∀ (q : Nat) (y : Nd), ns[q]? = some y → ∀ c ∈ y.kids, 0 ≤ c ∧ c < ns.length := by
        intro q y hy c hc
        obtain ⟨j, z, rfl, hz, _⟩ := h.kup q y.pl (by rw [List.getElem?_map, hy]; rfl) c hc
        have := (List.getElem?_eq_some_iff.1 hz).1
        rw [List.length_map] at this
        omega
      simp only [List.map_cons, List.sum_cons] at hM
      cases ht : tplB x with
      | false =>
        have htq : tplQ x.pl = false := by rw [← tplB_pl hsp]; exact ht
        have hin : x.pl.inner = -1 := by
          have := (h.nm i x.pl hx').2
          rw [htq] at this
          exact Classical.byContradiction fun e => by have := this.1 e; cases this
        have hch : chA (ns.map Nd.pl) i = x.kids := by unfold chA; rw [pAt_some hx', pAt_some hx', hin, pAt_neg (by omega), List.append_nil]; rfl
        rw [hch, htq, if_neg (by simp)] at hc
        obtain ⟨L, N, g1, g2⟩ := ih (M - 1) (by omega) (m + 1) (itm x.kids m ++ rest) (by rw [List.map_append, List.sum_append, itm_cnt]; omega) (fun p hp => by
          rcases List.mem_append.1 hp with hp | hp
          · unfold itm at hp
            obtain ⟨z, hz, rfl⟩ := List.mem_map.1 hp
            exact fin i x hx z hz
          · exact hI p (List.mem_cons_of_mem _ hp))
        exact ⟨_, _, .plain (by rw [Int.toNat_natCast]; exact hx) (inN_nat hx) ht g1, by rw [List.length_cons]; omega⟩
      | true =>
        have htq : tplQ x.pl = true := by rw [← tplB_pl hsp]; exact ht
        obtain ⟨e, _, y, hy, hk1⟩ := (h.inn i x.pl hx').resolve_left ((h.nm i x.pl hx').2.2 htq)
        rw [List.getElem?_map] at hy
        obtain ⟨z, hz, rfl⟩ := Option.map_eq_some_iff.1 hy
        have e2 : x.inner = (i : Int) + 1 := e
        have hin : innN ns i = ((i + 1 : Nat) : Int) := by unfold innN; rw [atN_nat hx, e2, if_neg (by omega)]; omega
        have hkd : kdN ns (innN ns i) = z.kids := by rw [hin]; unfold kdN; rw [atN_nat hz]
        have hch : chA (ns.map Nd.pl) i = x.kids ++ z.kids := by unfold chA; rw [pAt_some hx', pAt_some hx', e, show (i : Int) + 1 = ((i + 1 : Nat) : Int) by omega, pAt_some (x := z.pl) (by rw [List.getElem?_map, hz]; rfl)]; rfl
        rw [hch, htq, if_pos rfl, List.map_append, List.sum_append] at hc
        obtain ⟨L, N, g1, g2⟩ := ih (M - 2) (by omega) (m + 2) (itm x.kids m ++ (itm (kdN ns (innN ns i)) ((m + 1 : Nat) : Int) ++ rest)) (by rw [hkd, List.map_append, List.sum_append, List.map_append, List.sum_append, itm_cnt, itm_cnt]; omega) (fun p hp => by
          rcases List.mem_append.1 hp with hp | hp
          · unfold itm at hp
            obtain ⟨w, hw, rfl⟩ := List.mem_map.1 hp
            exact fin i x hx w hw
          · rcases List.mem_append.1 hp with hp | hp
            · rw [hkd] at hp
              unfold itm at hp
              obtain ⟨w, hw, rfl⟩ := List.mem_map.1 hp
              exact fin (i + 1) z hz w hw
            · exact hI p (List.mem_cons_of_mem _ hp))
        exact ⟨_, _, .tpl (by rw [Int.toNat_natCast]; exact hx) (inN_nat hx) ht g1, by rw [List.length_cons, List.length_cons]; omega⟩
theorem Tr.tk1 (h : Tr (ns.map Nd.pl)) (hs : ∀ x ∈ ns, x.space = 0) {i : Nat} (hi : i < ns.length) (m : Nat) (u : Int) : ∃ L N, Tk ns m (itm [(i : Int)] u) L N ∧ N.length ≤ ns.length := by
  refine h.tk hs ns.length m (itm [(i : Int)] u) ?_ (fun p hp => ?_)
  · unfold itm
    simp only [List.map_cons, List.map_nil, List.sum_cons, List.sum_nil, Nat.add_zero]
    unfold cnT
    refine Nat.le_trans List.countP_le_length ?_
    rw [List.length_range, List.length_map]
    exact Nat.le_refl _
  · unfold itm at hp
    simp at hp
    subst hp
    exact ⟨by simp, by simpa using hi⟩
/-- what is asked of a tree that is copied holds of those of the laws -/
theorem Tr.cn (h : Tr (ns.map Nd.pl)) (hs : ∀ x ∈ ns, x.space = 0 ∧ x.attrs = [] ∧ x.pub = ⟨#[]⟩ ∧ x.sys = ⟨#[]⟩) : Cn ns := by
  intro i x hx
  have hx' : (ns.map Nd.pl)[i]? = some x.pl := by rw [List.getElem?_map, hx]; rfl
  have hsp := (hs x (List.mem_of_getElem? hx)).1
  rw [tplB_pl hsp]
  refine ⟨fun ht => ?_, fun ht => ?_⟩
  · have := (h.nm i x.pl hx').2
    rw [ht] at this
    have e : x.inner = -1 := Classical.byContradiction fun e => by have := this.1 e; cases this
    unfold innN
    rw [atN_nat hx, e]
    rfl
  · obtain ⟨e, _, y, hy, hk1⟩ := (h.inn i x.pl hx').resolve_left ((h.nm i x.pl hx').2.2 ht)
    have hy0 := hy
    rw [List.getElem?_map] at hy
    obtain ⟨z, hz, rfl⟩ := Option.map_eq_some_iff.1 hy
    have e2 : x.inner = (i : Int) + 1 := e
    obtain ⟨n1, n2⟩ := (h.nm (i + 1) z.pl hy0).1 hk1
    have hzi : z.inner = -1 := (h.pg (i + 1) z.pl hy0 hk1).2
    obtain ⟨s1, s2, s3, s4⟩ := hs z (List.mem_of_getElem? hz)
    refine ⟨i + 1, z, by unfold innN; rw [atN_nat hx, e2, if_neg (by omega)]; omega, hz, ndS_of hk1 s1 n1 n2 s2 s3 s4, ?_⟩
    unfold innN
    rw [atN_nat hz, hzi]
    rfl
end
end Go.Proofs.Ytodlcfhkiilpgaa
