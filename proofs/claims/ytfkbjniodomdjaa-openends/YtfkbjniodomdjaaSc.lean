/- A stack of elements in memory: nodes, Top, Push, Pop, At. -/
import Derived.Test.YtfkbjniodomdjaaSb
import Derived.Test.YtfkbjniodomdjaaFm
import Derived.Test.YtfkbjniodomdjaaOShelf
import Derived.Lib.Hide
namespace Go.Proofs.Ytfkbjniodomdjaa
open Go.RowKit Go.Lib

theorem RI.type {w : World} {v : Value} {l : List Int} (h : RI w v l) {g : Nat} (e : v.ownBlock = some g) : ∃ cur, w.heap[g]? = some (.cells cur 3 (0, 0)) := by
  rcases h with ⟨rfl, _⟩ | ⟨g', cap, cur, rfl, hg, _⟩
  · cases e
  · cases e
    exact ⟨cur, hg⟩
/-- a stack: its block, its list -/
structure StM (T : Nat) (pd va : Value) (xs : List Int) (W : World) : Prop where
  hd : W.heap[T]? = some (.cells #[pd, va] 76 (0, 0))
  rd : RI W va xs
/-- its blocks -/
def ST (T : Nat) (va : Value) (k : Nat) : Prop := k = T ∨ va.ownBlock = some k
section
variable {T : Nat} {pd va : Value} {xs : List Int} {W W' : World}
theorem StM.lt (h : StM T pd va xs W) : T < W.heap.size := (Array.getElem?_eq_some_iff.1 h.hd).1
theorem StM.cells (h : StM T pd va xs W) : W.cell? ⟨T, 0, none⟩ = some pd ∧ W.cell? ⟨T, 1, none⟩ = some va ∧ W.frozen? ⟨T, 1, none⟩ = false := by
  refine ⟨?_, ?_, ?_⟩
  · rw [cell_of_row _ _ _ _ _ _ h.hd]; rfl
  · rw [cell_of_row _ _ _ _ _ _ h.hd]; rfl
  · simp [World.frozen?, h.hd]
theorem StM.ne (h : StM T pd va xs W) : va.ownBlock ≠ some T := by
  intro e
  obtain ⟨cur, hc⟩ := h.rd.type e
  rw [h.hd] at hc
  injection hc with hc
  injection hc with _ hc
  exact absurd hc (by decide)
theorem StM.keep {S : Nat → Prop} (h : StM T pd va xs W) (hf : Frm S W W') (hS : ∀ k, ST T va k → ¬ S k) : StM T pd va xs W' :=
  ⟨(hf.block T h.lt (hS T (.inl rfl))).trans h.hd, h.rd.ofBlock (fun g e => hf.block g (h.rd.lt e) (hS g (.inr e)))⟩
theorem StM.below (h : StM T pd va xs W) (hb : Below W.heap.size W W') : StM T pd va xs W' := h.keep (S := fun _ => False) (Frm.below hb) (fun _ _ h => h)
theorem StM.in_ (h : StM T pd va xs W) : ∀ k, ST T va k → k < W.heap.size := by
  rintro k (rfl | e)
  · exact h.lt
  · exact h.rd.lt e
/-- what a call leaves that turns a stack -/
def SPost (T : Nat) (pd va : Value) (xs' : List Int) (W W' : World) : Prop :=
  ∃ va', StM T pd va' xs' W' ∧ Frm (ST T va) W W' ∧ ∀ g, va'.ownBlock = some g → va.ownBlock = some g ∨ W.heap.size ≤ g
theorem nodes_any (W : World) (h : StM T pd va xs W) : Calls Try.prog 68 #[.pointer (some ⟨T, 0, none⟩)] W fun e W' => e = .returned va ∧ W' = W := by
  obtain ⟨_, c1, _⟩ := h.cells
  obtain ⟨A, cap, rfl, _⟩ := h.rd.form
  clear h
  go_enter Try.func68, Try.ntmps68
  go_wp2
  go_ret
  exact ⟨rfl, rfl⟩
/-- the innermost one -/
def topI (xs : List Int) : Int := xs.getLast?.getD (-1)
theorem topI_snoc (ys : List Int) (y : Int) : topI (ys ++ [y]) = y := by simp [topI]
theorem snoc_of {xs : List Int} (h : xs ≠ []) : ∃ ys y, xs = ys ++ [y] := ⟨xs.dropLast, xs.getLast h, (List.dropLast_concat_getLast h).symm⟩
theorem rd_last {A : Option Addr} {ys : List Int} {y : Int} (h : Rd W .i64 A (ys ++ [y])) : ∃ b off, A = some ⟨b, off, none⟩ ∧ b < W.heap.size ∧ W.cell? ⟨b, off + ys.length, none⟩ = some (.int .i64 y) := by
  obtain ⟨b, off, hA, hb, hc⟩ := h.pos (by simp)
  exact ⟨b, off, hA, hb, by rw [hc ys.length (by simp)]; simp⟩
theorem top_any (W : World) (h : StM T pd va xs W) (hl : xs.length ≤ 1000000) : Calls Try.prog 70 #[.pointer (some ⟨T, 0, none⟩)] W fun e W' => e = .returned (.int .i64 (topI xs)) ∧ W' = W := by
  have KN := Lib.hid (nodes_any W h)
  obtain ⟨A, cap, rfl, hn, hle, hr⟩ := h.rd.form
  clear h
  by_cases hx : xs = []
  · subst hx
    clear hr hn hle
    rw [show topI [] = -1 from rfl]
    simp only [List.length_nil] at KN
    go_enter Try.func70, Try.ntmps70
    go_wp2_with fail
    refine KN.out.mono ?_
    rintro e w1 ⟨rfl, rfl⟩
    go_wp2
    go_ret
    exact ⟨rfl, rfl⟩
  · obtain ⟨ys, y, rfl⟩ := snoc_of hx
    rw [topI_snoc]
    obtain ⟨b, off, rfl, hb, hc⟩ := rd_last hr
    rw [List.length_append, List.length_cons, List.length_nil] at KN hl hle
    obtain ⟨m, hm⟩ : ∃ m, ys.length = m := ⟨_, rfl⟩
    rw [hm] at KN hc hl hle
    clear hm hx hr hn
    go_enter Try.func70, Try.ntmps70
    go_wp2_with fail
    refine KN.out.mono ?_
    rintro e w1 ⟨rfl, rfl⟩
    go_wp2
    go_ret
    exact ⟨rfl, rfl⟩
theorem push_any (n : Int) (W : World) (h : StM T pd va xs W) (hl : xs.length ≤ 1000000) : Calls Try.prog 67 #[.pointer (some ⟨T, 0, none⟩), .int .i64 n] W fun e W' => e = .returned (.tuple #[]) ∧ SPost T pd va (xs ++ [n]) W W' := by
  obtain ⟨W1, hW1⟩ : ∃ W1, W.alloc (.cells #[.int .i64 n] 3) = W1 := ⟨_, rfl⟩
  have hb1 : Below W.heap.size W W1 := by rw [← hW1]; exact (Below.refl _ W).alloc (Nat.le_refl _) _
  have hd1 : Rd W1 .i64 (some ⟨W.heap.size, 0, none⟩) [n] := by
    refine .inr ⟨W.heap.size, 0, rfl, by rw [← hW1, World.size_alloc]; omega, fun i hi => ?_⟩
    match i, hi with
    | 0, _ => rw [← hW1, cell_of_row _ _ _ _ _ _ (heap_alloc_new W _)]; rfl
  have h1 := h.below hb1
  obtain ⟨_, c1, fz⟩ := h.cells
  have HR := Lib.hid h1.rd
  have HD1 := Lib.hid hd1
  have H1 := Lib.hid h1
  have H := Lib.hid h
  have HB1 := Lib.hid hb1
  obtain ⟨A, cap, rfl, hn, hle, _⟩ := h.rd.form
  have hT := h.lt
  have HNE := Lib.hid h.ne
  clear h hb1 hd1 h1
  subst hW1
  go_enter Try.func67, Try.ntmps67
  go_wp2_with (at_builtin; refine wpList_append_ri rfl _ _ rfl _ xs [n] (some ⟨W.heap.size, 0, none⟩) 1 1 rfl rfl rfl HR.out HD1.out (fun e => by cases e) (by simp; omega) ?_; intro v' w' hA; obtain ⟨A5, c5, rfl, hn5, hl5, _⟩ := hA.rd.form; have hd5 := (hA.grown.block T H1.out.lt (fun e => HNE.out e.symm)).trans H1.out.hd; have fz5 : w'.frozen? ⟨T, 1, none⟩ = false := (by simp [World.frozen?, hd5]); have c05 : w'.cell? ⟨T, 1, none⟩ = some (.slice A xs.length cap) := (by rw [cell_of_row _ _ _ _ _ _ hd5]; rfl))
  go_end0
  have hl : (xs ++ [n]).length = xs.length + 1 := by simp
  have hg := hA.grown
  have hr := hA.rd
  have ha := hA.at_.own
  rw [hl] at hr ha
  change ((W.alloc (.cells #[.int .i64 n] 3)).grownBy w' (Value.slice A xs.length cap).ownBlock) at hg
  change ((Value.slice A5 (xs.length + 1) c5).ownBlock = (Value.slice A xs.length cap).ownBlock ∨ _) at ha
  have hne5 : (Value.slice A5 (xs.length + 1) c5).ownBlock ≠ some T := by
    rcases ha with h | ⟨g, h, hge⟩
    · rw [h]; exact HNE.out
    · rw [h]
      intro e
      injection e with e
      simp only [World.size_alloc] at hge
      omega
  refine ⟨rfl, .slice A5 (xs.length + 1) c5, ⟨heap_setCell_same _ T 1 _ _ _ hd5, hr.ofBlock (fun g e => Below.heap_setCell w' ⟨T, 1, none⟩ _ g (fun h => hne5 ((show g = T from h) ▸ e)))⟩, ?_, ?_⟩
  · refine ((Frm.below HB1.out).trans (Frm.grown hg (fun k e => .inr e))).trans (Frm.set _ (.inl rfl))
  · intro k e
    rcases ha with h | ⟨g, h, hge⟩
    · exact .inl (h ▸ e)
    · rw [h] at e
      cases e
      exact .inr (by simp only [World.size_alloc] at hge; omega)
theorem pop_any (W : World) (h : StM T pd va xs W) (hl : xs.length ≤ 1000000) : Calls Try.prog 69 #[.pointer (some ⟨T, 0, none⟩)] W fun e W' => e = .returned (.int .i64 (topI xs)) ∧ SPost T pd va xs.dropLast W W' := by
  have KN := Lib.hid (nodes_any W h)
  have KT := Lib.hid (top_any W h hl)
  obtain ⟨_, c1, fz⟩ := h.cells
  have HNE := Lib.hid h.ne
  have H := Lib.hid h
  by_cases hx : xs = []
  · subst hx
    obtain ⟨A, cap, rfl, hn, hle, hr⟩ := h.rd.form
    clear hr hn hle h
    simp only [List.length_nil] at KN KT c1
    go_enter Try.func69, Try.ntmps69
    go_wp2_with fail
    refine KT.out.mono ?_
    rintro e w1 ⟨rfl, rfl⟩
    go_wp2_with fail
    refine KN.out.mono ?_
    rintro e w1 ⟨rfl, rfl⟩
    go_wp2
    go_ret
    exact ⟨rfl, _, H.out, Frm.refl _ _, fun _ e => .inl e⟩
  · rcases h.rd with ⟨rfl, rfl⟩ | ⟨g, cap, cur, rfl, hg, hn, hc, hm, ht⟩
    · exact absurd rfl hx
    have hT := h.lt
    have HG := Lib.hid hg
    have HTK := Lib.hid ht
    obtain ⟨ys, y, rfl⟩ := snoc_of hx
    rw [List.dropLast_concat]
    rw [List.length_append, List.length_cons, List.length_nil] at KN hl hn c1 HNE ⊢
    obtain ⟨m, hm'⟩ : ∃ m, ys.length = m := ⟨_, rfl⟩
    rw [hm'] at KN hl hn c1 HNE ⊢
    have HM := Lib.hid hm'
    have HHD := Lib.hid H.out.hd
    rw [List.length_append, List.length_cons, List.length_nil, hm'] at HHD
    obtain ⟨t, ht'⟩ : ∃ t, topI (ys ++ [y]) = t := ⟨_, rfl⟩
    rw [ht'] at KT ⊢
    clear hm' hx h hg ht H ht'
    unfold maxLen at hm
    go_enter Try.func69, Try.ntmps69
    go_wp2_with fail
    refine KT.out.mono ?_
    rintro e w1 ⟨rfl, rfl⟩
    go_wp2_with fail
    refine KN.out.mono ?_
    rintro e w1 ⟨rfl, rfl⟩
    go_wp2
    go_ret
    have hS : Frm (fun k => k = T) w1 (w1.setCell ⟨T, 1, none⟩ (.slice (some ⟨g, 0, none⟩) m m)) := Frm.set _ rfl
    refine ⟨rfl, .slice (some ⟨g, 0, none⟩) m m, ⟨heap_setCell_same _ T 1 _ _ _ HHD.out, .inr ⟨g, m, cur, by rw [HM.out], ?_, by rw [HM.out]; exact Nat.le_refl _, by omega, by unfold maxLen; omega, ?_⟩⟩, hS.mono (fun k h => .inl h), fun _ e => .inl e⟩
    · exact (hS.block g (Array.getElem?_eq_some_iff.1 HG.out).1 (fun e => HNE.out (by rw [← e]; rfl))).trans HG.out
    · have := congrArg (List.take m) HTK.out
      rw [List.take_take, List.length_append, HM.out, Nat.min_eq_left (by omega), List.map_append, List.take_append_of_le_length (by simp [HM.out])] at this
      have hq : (ys.map (Value.int .i64)).length = m := by simp [HM.out]
      rw [HM.out, this]
      exact List.take_of_length_le (by omega)
/-- where one stands first; -1: nowhere -/
def posI (xs : List Int) (n : Int) : Int := Lib.idxOf xs n
end
end Go.Proofs.Ytfkbjniodomdjaa
