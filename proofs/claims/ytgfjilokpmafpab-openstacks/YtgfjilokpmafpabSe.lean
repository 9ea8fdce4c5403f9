/- Remove and Insert of a stack. -/
import Derived.Test.YtgfjilokpmafpabSc
import Derived.Test.YtgfjilokpmafpabSd
import Derived.Test.YtgfjilokpmafpabSq
import Derived.Deep.RegionLaw
import Derived.BigRegion
namespace Go.Proofs.Ytgfjilokpmafpab
open Go.RowKit Go.Shelf Go.Lib

theorem first_mem : ∀ (xs : List Int) (n : Int), n ∈ xs → ∃ k : Nat, xs[k]? = some n ∧ ∀ j : Nat, j < k → xs[j]? ≠ some n
  | [], _, h => by cases h
  | a :: l, n, h => by
    by_cases ha : a = n
    · subst ha
      exact ⟨0, rfl, fun j hj => absurd hj (Nat.not_lt_zero _)⟩
    · rcases List.mem_cons.1 h with e | e
      · exact absurd e.symm ha
      · obtain ⟨k, h1, h2⟩ := first_mem l n e
        refine ⟨k + 1, h1, fun j hj => ?_⟩
        cases j with
        | zero => exact fun e => ha (Option.some.inj e)
        | succ j => exact h2 j (by omega)
theorem posI_cases (xs : List Int) (n : Int) : (posI xs n = -1 ∧ ∀ x ∈ xs, x ≠ n) ∨ ∃ k : Nat, posI xs n = k ∧ xs[k]? = some n ∧ ∀ j : Nat, j < k → xs[j]? ≠ some n := by
  by_cases h : n ∈ xs
  · right
    obtain ⟨k, hk, hne⟩ := first_mem xs n h
    have hkl := (List.getElem?_eq_some_iff.1 hk).1
    refine ⟨k, ?_, hk, hne⟩
    have := Lib.idxOf_hit xs xs.length k n hkl (Nat.le_refl _) (by simp [List.getD, hk]) (fun j hj e => hne j hj (by
      rw [List.getD, List.getElem?_eq_getElem (by omega : j < xs.length)] at e
      rw [List.getElem?_eq_getElem (by omega : j < xs.length)]
      simpa using e))
    rw [List.take_length] at this
    exact this
  · left
    refine ⟨?_, fun x hx e => h (e ▸ hx)⟩
    have := Lib.idxOf_miss xs xs.length n (fun j hj e => h (by
      rw [List.getD, List.getElem?_eq_getElem hj] at e
      simp at e
      rw [← e]
      exact List.getElem_mem hj))
    rw [List.take_length] at this
    exact this
section
variable {T : Nat} {pd va : Value} {xs : List Int} {W W' : World}
theorem rd_take {w : World} {g k : Nat} {xs : List Int} (h : Rd w .i64 (some ⟨g, 0, none⟩) xs) : Rd w .i64 (some ⟨g, 0, none⟩) (xs.take k) := by
  rcases h with rfl | ⟨b, off, hA, hb, hc⟩
  · exact .inl (by simp)
  · refine .inr ⟨b, off, hA, hb, fun i hi => ?_⟩
    rw [List.length_take] at hi
    rw [hc i (by omega), List.getElem?_take, if_pos (by omega)]
theorem rd_dropI {w : World} {g k : Nat} {xs : List Int} (h : Rd w .i64 (some ⟨g, 0, none⟩) xs) : Rd w .i64 (some ⟨g, k, none⟩) (xs.drop k) := by
  rcases h with rfl | ⟨b, off, hA, hb, hc⟩
  · exact .inl (by simp)
  · injection hA with hA
    injection hA with h1 h2
    subst h1 h2
    by_cases hk : xs.length ≤ k
    · exact .inl (List.drop_eq_nil_of_le hk)
    · refine .inr ⟨g, k, rfl, hb, fun i hi => ?_⟩
      rw [List.length_drop] at hi
      have := hc (k + i) (by omega)
      rw [Nat.zero_add] at this
      rw [this, List.getElem?_drop]
/-- a list laid anew behind a stack -/
theorem st_set {B : Nat} {w3 : World} {A3 : Option Addr} {c3 : Nat} {L : List Int} (h : StM T pd va xs W) (hb : Below W.heap.size W w3) (hown : w3.ownsRow B 3 1 (.slice A3 L.length c3) L.length (L.map (Value.int .i64))) (hB : W.heap.size ≤ B) :
    SPost T pd va L W (w3.setCell ⟨T, 1, none⟩ (.slice A3 L.length c3)) := by
  have h3 := h.below hb
  have hr := RI.own hown
  have hT := h.lt
  have hne : ∀ g, (Value.slice A3 L.length c3).ownBlock = some g → B ≤ g := fun g e => (hown.lt g e).1
  refine ⟨_, ⟨heap_setCell_same _ T 1 _ _ _ h3.hd, hr.ofBlock (fun g e => Below.heap_setCell w3 ⟨T, 1, none⟩ _ g (fun e2 => by
    have := hne g e
    have e3 : g = T := e2
    omega))⟩, (Frm.below hb).trans (Frm.set _ (.inl rfl)), ?_⟩
  exact fun g e => .inr (Nat.le_trans hB (hne g e))
set_option maxHeartbeats 1000000 in
theorem remove_hit (n : Int) (k : Nat) (W : World) (h : StM T pd va xs W) (hl : xs.length ≤ 1000000) (hk : posI xs n = k) (hkl : k < xs.length) : Calls Try.prog 11 #[.pointer (some ⟨T, 0, none⟩), .int .i64 n] W fun e W' => e = .returned (.tuple #[]) ∧ SPost T pd va (xs.take k ++ xs.drop (k + 1)) W W' := by
  have KA := Lib.hid (at_any n W h hl)
  rw [hk] at KA
  obtain ⟨_, c1, fz⟩ := h.cells
  rcases h.rd with ⟨rfl, rfl⟩ | ⟨g, cap, cur, rfl, hg, hn, hc, hm, ht⟩
  · simp at hkl
  have hrd : Rd W .i64 (some ⟨g, 0, none⟩) xs := by
    obtain ⟨A, c, e, _, _, hr⟩ := h.rd.form
    injection e with e
    rw [e]
    exact hr
  unfold maxLen at hm
  have H := Lib.hid h
  have wk : IntKind.i64.wrap ((k : Int) + 1) = (k : Int) + 1 := by rw [IntKind.wrap_i64]; omega
  have nk : (0 : Int) ≤ (k : Int) + 1 := by omega
  have tk : ((k : Int) + 1).toNat = k + 1 := by omega
  have hkc : k ≤ cap := by omega
  have hkc1 : k + 1 ≤ cap := by omega
  have hkn : (k : Int) + 1 ≤ (xs.length : Int) := by omega
  have hkk : (k : Int) ≤ (k : Int) + 1 := by omega
  have hT := h.lt
  -- the two pieces, and the call that joins them
  have KJ : ∀ (A2 : Option Addr) (c2 : Nat) (W1 : World), W1 = (W.alloc (.cells #[.slice (some ⟨g, 0, none⟩) k cap, .slice A2 (xs.length - (k + 1)) c2] 22)).drew → Rd W .i64 A2 (xs.drop (k + 1)) → (A2 = none → c2 = 0) →
      Calls Try.prog 25 #[.slice (some ⟨W.heap.size, 0, none⟩) 2 2] W1 (MadeI (xs.take k ++ xs.drop (k + 1)) W1) ∧ Below W.heap.size W W1 := by
    intro A2 c2 W1 hW1 hA2 hn2
    have hb : Below W.heap.size W W1 := by rw [hW1]; exact ((Below.refl _ W).alloc (Nat.le_refl _) _).drew
    have hsz : W1.heap.size = W.heap.size + 1 := by rw [hW1]; exact World.size_alloc _ _
    refine ⟨?_, hb⟩
    have hrow : W1.heap[W.heap.size]? = some (.cells #[.slice (some ⟨g, 0, none⟩) k cap, .slice A2 (xs.length - (k + 1)) c2] 22 (0, 0)) := by rw [hW1]; exact heap_alloc_new W _
    clear hW1
    have l1 : (xs.take k).length = k := by simp; omega
    have l2 : (xs.drop (k + 1)).length = xs.length - (k + 1) := by simp
    have := Concat_any [⟨some ⟨g, 0, none⟩, xs.take k, cap⟩, ⟨A2, xs.drop (k + 1), c2⟩] W.heap.size 2 W1 (by omega) (fun i s hs => by
      match i, hs with
      | 0, hs => cases hs; rw [cell_of_row _ _ _ _ _ _ hrow]; simp [Sl.val, l1]
      | 1, hs => cases hs; rw [cell_of_row _ _ _ _ _ _ hrow]; simp [Sl.val]
      | i + 2, hs => simp at hs) (fun s hs => by
      simp only [List.mem_cons, List.not_mem_nil, or_false] at hs
      rcases hs with rfl | rfl
      · exact (rd_take hrd).below hb
      · exact hA2.below hb) (fun s hs => by
      simp only [List.mem_cons, List.not_mem_nil, or_false] at hs
      rcases hs with rfl | rfl
      · exact fun e => by cases e
      · exact hn2) (by simp) (by simp [cat]; omega)
    have e2 : cat [(⟨some ⟨g, 0, none⟩, xs.take k, cap⟩ : Sl), ⟨A2, xs.drop (k + 1), c2⟩] = xs.take k ++ xs.drop (k + 1) := by simp [cat]
    rw [e2] at this
    exact this
  have HKJ := Lib.hid KJ
  have HRD := Lib.hid hrd
  clear h hk hg ht hc KJ hrd
  obtain ⟨L, hL⟩ : ∃ L, xs.take k ++ xs.drop (k + 1) = L := ⟨_, rfl⟩
  rw [hL] at HKJ ⊢
  clear hL
  by_cases hcap : cap = k + 1
  · have hnil : xs.drop (k + 1) = [] := List.drop_eq_nil_of_le (by omega)
    have KC := Lib.hid (HKJ.out (some ⟨g, 0, none⟩) 0 _ rfl (by rw [hnil]; exact .inl rfl) (fun e => by cases e))
    have hz : xs.length - (k + 1) = 0 := by omega
    rw [hz] at KC
    subst hcap
    clear HKJ hnil hz
    go_enter Try.func11, Try.ntmps11
    go_wp2_with fail
    refine KA.out.mono ?_
    rintro e w1 ⟨rfl, rfl⟩
    go_wp2_with fail
    go_region_law (first | (go_simp; go_at_call 25; refine KC.out.1.mono ?_; rintro e w3 ⟨v3, rfl, hown3, hb3⟩; obtain ⟨A3, c3, rfl, _⟩ := Rd.own hown3; have hbw := KC.out.2.trans (hb3.mono KC.out.2.size); have d1 := (hbw.cell (p := ⟨T, 1, none⟩) hT).trans c1; have fz1 := (hbw.frozen (p := ⟨T, 1, none⟩) hT).trans fz))
    all_goals
      go_wp2
      go_end0
      exact ⟨rfl, st_set H.out hbw hown3 KC.out.2.size⟩
  · have KC := Lib.hid (HKJ.out (some ⟨g, k + 1, none⟩) (cap - (k + 1)) _ rfl (rd_dropI HRD.out) (fun e => by cases e))
    clear HKJ
    go_enter Try.func11, Try.ntmps11
    go_wp2_with fail
    refine KA.out.mono ?_
    rintro e w1 ⟨rfl, rfl⟩
    go_wp2_with fail
    go_region_law (first | (go_simp; go_at_call 25; refine KC.out.1.mono ?_; rintro e w3 ⟨v3, rfl, hown3, hb3⟩; obtain ⟨A3, c3, rfl, _⟩ := Rd.own hown3; have hbw := KC.out.2.trans (hb3.mono KC.out.2.size); have d1 := (hbw.cell (p := ⟨T, 1, none⟩) hT).trans c1; have fz1 := (hbw.frozen (p := ⟨T, 1, none⟩) hT).trans fz))
    all_goals
      go_wp2
      go_end0
      exact ⟨rfl, st_set H.out hbw hown3 KC.out.2.size⟩
/-- the list without the first one of a number -/
def rmI (xs : List Int) (n : Int) : List Int := if posI xs n < 0 then xs else xs.take (posI xs n).toNat ++ xs.drop ((posI xs n).toNat + 1)
theorem remove_any (n : Int) (W : World) (h : StM T pd va xs W) (hl : xs.length ≤ 1000000) : Calls Try.prog 11 #[.pointer (some ⟨T, 0, none⟩), .int .i64 n] W fun e W' => e = .returned (.tuple #[]) ∧ SPost T pd va (rmI xs n) W W' := by
  unfold rmI
  rcases posI_cases xs n with ⟨hm, _⟩ | ⟨k, hk, hx, _⟩
  · have KA := Lib.hid (at_any n W h hl)
    rw [hm] at KA ⊢
    rw [if_pos (by decide)]
    have H := Lib.hid h
    clear h hm
    go_enter Try.func11, Try.ntmps11
    go_wp2_with fail
    refine KA.out.mono ?_
    rintro e w1 ⟨rfl, rfl⟩
    go_wp2
    go_end0
    exact ⟨rfl, va, H.out, Frm.refl _ _, fun _ e => .inl e⟩
  · rw [hk, if_neg (by omega), Int.toNat_natCast]
    exact remove_hit n k W h hl hk (List.getElem?_eq_some_iff.1 hx).1
set_option maxHeartbeats 2000000 in
theorem insert_any (n : Int) (k : Nat) (W : World) (h : StM T pd va xs W) (hl : xs.length ≤ 1000000) (hk : k ≤ xs.length) : Calls Try.prog 12 #[.pointer (some ⟨T, 0, none⟩), .int .i64 k, .int .i64 n] W fun e W' => e = .returned (.tuple #[]) ∧ SPost T pd va (xs.take k ++ n :: xs.drop k) W W' := by
  obtain ⟨_, c1, fz⟩ := h.cells
  have H := Lib.hid h
  have hT := h.lt
  obtain ⟨Wn, hWn⟩ : ∃ Wn, W.alloc (.cells #[.int .i64 n] 3) = Wn := ⟨_, rfl⟩
  have hbn : Below W.heap.size W Wn := by rw [← hWn]; exact (Below.refl _ W).alloc (Nat.le_refl _) _
  have hsn : Wn.heap.size = W.heap.size + 1 := by rw [← hWn]; exact World.size_alloc _ _
  have hrn : Rd Wn .i64 (some ⟨W.heap.size, 0, none⟩) [n] := by
    refine .inr ⟨W.heap.size, 0, rfl, by omega, fun i hi => ?_⟩
    match i, hi with
    | 0, _ => rw [← hWn, cell_of_row _ _ _ _ _ _ (heap_alloc_new W _)]; rfl
  have KJ : ∀ (A1 A2 : Option Addr) (c1 c2 : Nat) (W1 : World), W1 = (Wn.alloc (.cells #[.slice A1 k c1, .slice (some ⟨W.heap.size, 0, none⟩) 1 1, .slice A2 (xs.length - k) c2] 22)).drew → Rd W .i64 A1 (xs.take k) → Rd W .i64 A2 (xs.drop k) → (A1 = none → c1 = 0) → (A2 = none → c2 = 0) →
      Calls Try.prog 25 #[.slice (some ⟨W.heap.size + 1, 0, none⟩) 3 3] W1 (MadeI (xs.take k ++ n :: xs.drop k) W1) ∧ Below W.heap.size W W1 := by
    intro A1 A2 c1 c2 W1 hW1 hA1 hA2 hn1 hn2
    have hb1 : Below Wn.heap.size Wn W1 := by rw [hW1]; exact ((Below.refl _ Wn).alloc (Nat.le_refl _) _).drew
    have hb : Below W.heap.size W W1 := hbn.trans (hb1.mono hbn.size)
    have hsz : W1.heap.size = W.heap.size + 2 := by rw [hW1]; show (Wn.alloc _).heap.size = _; rw [World.size_alloc, hsn]
    refine ⟨?_, hb⟩
    have hrow : W1.heap[W.heap.size + 1]? = some (.cells #[.slice A1 k c1, .slice (some ⟨W.heap.size, 0, none⟩) 1 1, .slice A2 (xs.length - k) c2] 22 (0, 0)) := by
      rw [hW1, ← hsn]; exact heap_alloc_new Wn _
    clear hW1
    have l1 : (xs.take k).length = k := by simp; omega
    have := Concat_any [⟨A1, xs.take k, c1⟩, ⟨some ⟨W.heap.size, 0, none⟩, [n], 1⟩, ⟨A2, xs.drop k, c2⟩] (W.heap.size + 1) 3 W1 (by omega) (fun i s hs => by
      match i, hs with
      | 0, hs => cases hs; rw [cell_of_row _ _ _ _ _ _ hrow]; simp [Sl.val, l1]
      | 1, hs => cases hs; rw [cell_of_row _ _ _ _ _ _ hrow]; simp [Sl.val]
      | 2, hs => cases hs; rw [cell_of_row _ _ _ _ _ _ hrow]; simp [Sl.val]
      | i + 3, hs => simp at hs) (fun s hs => by
      simp only [List.mem_cons, List.not_mem_nil, or_false] at hs
      rcases hs with rfl | rfl | rfl
      · exact hA1.below hb
      · exact hrn.below hb1
      · exact hA2.below hb) (fun s hs => by
      simp only [List.mem_cons, List.not_mem_nil, or_false] at hs
      rcases hs with rfl | rfl | rfl
      · exact hn1
      · exact fun e => by cases e
      · exact hn2) (by simp) (by simp [cat]; omega)
    have e2 : cat [(⟨A1, xs.take k, c1⟩ : Sl), ⟨some ⟨W.heap.size, 0, none⟩, [n], 1⟩, ⟨A2, xs.drop k, c2⟩] = xs.take k ++ n :: xs.drop k := by simp [cat]
    rw [e2] at this
    exact this
  have HKJ := Lib.hid KJ
  obtain ⟨L, hL⟩ : ∃ L, xs.take k ++ n :: xs.drop k = L := ⟨_, rfl⟩
  rw [hL] at HKJ ⊢
  subst hWn
  clear hL KJ hbn hsn hrn
  have k0 : decide ((k : Int) < 0) = false := decide_eq_false (by omega)
  rcases h.rd with ⟨rfl, rfl⟩ | ⟨g, cap, cur, rfl, hg, hn, hc, hm, ht⟩
  · obtain rfl : k = 0 := by simpa using hk
    have KC := Lib.hid (HKJ.out none none 0 0 _ rfl (.inl rfl) (.inl rfl) (fun _ => rfl) (fun _ => rfl))
    clear HKJ h
    simp only [List.length_nil, Nat.sub_self, Int.ofNat_zero] at KC c1 ⊢
    go_enter Try.func12, Try.ntmps12
    go_wp2_with fail
    go_region_law (first | (go_simp; go_at_call 25; refine KC.out.1.mono ?_; rintro e w3 ⟨v3, rfl, hown3, hb3⟩; obtain ⟨A3, c3, rfl, _⟩ := Rd.own hown3; have hbw := KC.out.2.trans (hb3.mono KC.out.2.size); have d1 := (hbw.cell (p := ⟨T, 1, none⟩) hT).trans c1; have fz1 := (hbw.frozen (p := ⟨T, 1, none⟩) hT).trans fz))
    all_goals
      go_wp2
      go_end0
      exact ⟨rfl, st_set H.out hbw hown3 KC.out.2.size⟩
  · have hrd : Rd W .i64 (some ⟨g, 0, none⟩) xs := by
      obtain ⟨A, c, e, _, _, hr⟩ := h.rd.form
      injection e with e
      rw [e]
      exact hr
    have hkc : k ≤ cap := by omega
    have hkn : (k : Int) ≤ (xs.length : Int) := by omega
    have hmin : min (k : Int) (xs.length : Int) = (k : Int) := Int.min_eq_left hkn
    unfold maxLen at hm
    by_cases hcap : cap = k
    · have hnil : xs.drop k = [] := List.drop_eq_nil_of_le (by omega)
      have KC := Lib.hid (HKJ.out (some ⟨g, 0, none⟩) (some ⟨g, 0, none⟩) cap 0 _ rfl (rd_take hrd) (by rw [hnil]; exact .inl rfl) (fun e => by cases e) (fun e => by cases e))
      have hz : xs.length - k = 0 := by omega
      rw [hz] at KC
      subst hcap
      clear HKJ hnil hz hrd h hg hc ht
      go_enter Try.func12, Try.ntmps12
      go_wp2_with fail
      go_region_law (first | (go_simp; go_at_call 25; refine KC.out.1.mono ?_; rintro e w3 ⟨v3, rfl, hown3, hb3⟩; obtain ⟨A3, c3, rfl, _⟩ := Rd.own hown3; have hbw := KC.out.2.trans (hb3.mono KC.out.2.size); have d1 := (hbw.cell (p := ⟨T, 1, none⟩) hT).trans c1; have fz1 := (hbw.frozen (p := ⟨T, 1, none⟩) hT).trans fz))
      all_goals
        go_wp2
        go_end0
        exact ⟨rfl, st_set H.out hbw hown3 KC.out.2.size⟩
    · have KC := Lib.hid (HKJ.out (some ⟨g, 0, none⟩) (some ⟨g, k, none⟩) cap (cap - k) _ rfl (rd_take hrd) (rd_dropI hrd) (fun e => by cases e) (fun e => by cases e))
      clear HKJ hrd h hg hc ht
      go_enter Try.func12, Try.ntmps12
      go_wp2_with fail
      go_region_law (first | (go_simp; go_at_call 25; refine KC.out.1.mono ?_; rintro e w3 ⟨v3, rfl, hown3, hb3⟩; obtain ⟨A3, c3, rfl, _⟩ := Rd.own hown3; have hbw := KC.out.2.trans (hb3.mono KC.out.2.size); have d1 := (hbw.cell (p := ⟨T, 1, none⟩) hT).trans c1; have fz1 := (hbw.frozen (p := ⟨T, 1, none⟩) hT).trans fz))
      all_goals
        go_wp2
        go_end0
        exact ⟨rfl, st_set H.out hbw hown3 KC.out.2.size⟩
end
end Go.Proofs.Ytgfjilokpmafpab
