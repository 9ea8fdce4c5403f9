/- page, New, alone, isTemplate. A tree that gets nodes more, plain. Add. -/
import Derived.Test.YtojjdnfkcigdbaaJoin4
import Derived.Deep.DeepCutAuto
import Derived.Maps.AppendAt
namespace Go.Proofs.Ytojjdnfkcigdbaa
open Go.RowKit Go.Lib

def pageNd : Nd := ⟨1, 0, ⟨#[]⟩, ⟨#[]⟩, none, [], 0, ⟨#[]⟩, ⟨#[]⟩, -1, .slice none 0 0, [], -1⟩
theorem page_any (W : World) : Calls Try.prog 53 #[] W fun e W' => e = .returned (.agg pageNd.cs.toArray) ∧ W' = W.alloc (.cells pageNd.cs.toArray 53) := by
  unfold pageNd Nd.cs
  go_enter Try.func53, Try.ntmps53
  go_wp2
  refine bodyPost_ret (by simp [results, Try.results53, go_sem]; rfl) rfl ?_
  simp
theorem New_any (W : World) : Calls Try.prog 21 #[] W fun e W' => ∃ D v, e = .returned (.pointer (some ⟨D, 0, none⟩)) ∧ DocM W.heap.size D v false [pageNd] W' ∧ Below W.heap.size W W' := by
  obtain ⟨W1, hW1⟩ : ∃ W1, W.alloc (.cells pageNd.cs.toArray 53) = W1 := ⟨_, rfl⟩
  have hb1 : Below W.heap.size W W1 := by rw [← hW1]; exact (Below.refl _ W).alloc (Nat.le_refl _) _
  have hs1 : W.heap.size ≤ W1.heap.size := by rw [← hW1, World.size_alloc]; omega
  have KP := Lib.hid (page_any W)
  rw [hW1] at KP
  clear hW1
  unfold pageNd Nd.cs at KP
  simp only [List.length_nil] at KP
  go_enter Try.func21, Try.ntmps21
  go_wp2_with fail
  refine KP.out.mono ?_
  rintro e w1 ⟨rfl, rfl⟩
  go_wp2
  go_ret
  refine ⟨w1.heap.size + 1, .slice (some ⟨w1.heap.size, 0, none⟩) 1 1, rfl, ⟨?_, ?_, ?_, ?_, ?_, by omega⟩, (hb1.alloc hs1 _).alloc (by simp; omega) _⟩
  · have := heap_alloc_new (w1.alloc (.cells pageNd.cs.toArray 53)) (.cells #[.slice (some ⟨w1.heap.size, 0, none⟩) 1 1, .bool false] 49)
    rw [World.size_alloc] at this
    exact this
  · refine ⟨by rw [cellsN_len], .inr ⟨w1.heap.size, 1, pageNd.cs.toArray, rfl, hs1, ?_, Nat.le_refl _, by decide, rfl, rfl⟩⟩
    exact (Below.heap_alloc _ _ _ (by simp)).trans (heap_alloc_new w1 _)
  · intro i x hx
    match i, hx with
    | 0, hx => simp at hx; subst hx; exact World.ownsRow_nil _ _ _ _
    | i + 1, hx => simp at hx
  · intro i x hx
    match i, hx with
    | 0, hx => simp at hx; subst hx; exact World.ownsRow_nil _ _ _ _
    | i + 1, hx => simp at hx
  · intro i j x y g hx hy h1 h2
    match i, hx with
    | 0, hx => simp at hx; subst hx; cases h1
    | i + 1, hx => simp at hx
/-- whether a node is a template -/
def tplB (n : Nd) : Bool := n.kind == 2 && n.space == 0 && n.name.toList == [116, 101, 109, 112, 108, 97, 116, 101]
set_option maxHeartbeats 400000 in
theorem isTpl_any (n : Nd) (W : World) : Calls Try.prog 60 #[.agg n.cs.toArray] W fun e W' => e = .returned (.bool (tplB n)) ∧ Below W.heap.size W W' := by
  unfold tplB
  unfold Nd.cs
  cases h1 : (n.kind == 2) with
  | false =>
    go_enter Try.func60, Try.ntmps60
    go_wp2
    go_ret
    exact ⟨rfl, by first | exact Below.refl _ _ | exact (Below.refl _ W).alloc (Nat.le_refl _) _⟩
  | true =>
    cases h2 : (n.space == 0) with
    | false =>
      go_enter Try.func60, Try.ntmps60
      go_wp2
      go_ret
      exact ⟨rfl, by first | exact Below.refl _ _ | exact (Below.refl _ W).alloc (Nat.le_refl _) _⟩
    | true =>
      go_enter Try.func60, Try.ntmps60
      go_wp2
      go_ret
      exact ⟨(by simp only [Bool.true_and]; rfl), by first | exact Below.refl _ _ | exact (Below.refl _ W).alloc (Nat.le_refl _) _⟩
/-- a node alone: its attributes copied, no place, no kids -/
def aloneNd (n : Nd) (A : Option Addr) (c : Nat) : Nd := { n with aA := A, ac := c, up := -1, kv := .slice none 0 0, kids := [], inner := -1 }
theorem own_slice {W : World} {b t m k : Nat} {v : Value} {vs : List Value} (h : W.ownsRow b t m v k vs) : ∃ A c, v = .slice A k c := by
  obtain ⟨h1, h2⟩ := h
  rcases h2 with h2 | h2
  · obtain ⟨h3, h4⟩ := h2
    exact ⟨none, 0, by rw [h3]; simp_all⟩
  · obtain ⟨g, cap, xs, h3, _⟩ := h2
    exact ⟨_, _, h3⟩
/-- ten cells stored, one after the other -/
theorem set10 (w : World) (g t : Nat) (a0 a1 a2 a3 a4 a5 a6 a7 a8 a9 v0 v1 v2 v3 v4 v5 v6 v7 v8 v9 : Value) (h : w.heap[g]? = some (.cells #[a0, a1, a2, a3, a4, a5, a6, a7, a8, a9] t (0, 0))) : ((((((((((w.setCell ⟨g, 0, none⟩ v0).setCell ⟨g, 1, none⟩ v1).setCell ⟨g, 2, none⟩ v2).setCell ⟨g, 3, none⟩ v3).setCell ⟨g, 4, none⟩ v4).setCell ⟨g, 5, none⟩ v5).setCell ⟨g, 6, none⟩ v6).setCell ⟨g, 7, none⟩ v7).setCell ⟨g, 8, none⟩ v8).setCell ⟨g, 9, none⟩ v9).heap[g]? = some (.cells #[v0, v1, v2, v3, v4, v5, v6, v7, v8, v9] t (0, 0)) := by
  have h0 := h
  have h1 : (w.setCell ⟨g, 0, none⟩ v0).heap[g]? = some (.cells #[v0, a1, a2, a3, a4, a5, a6, a7, a8, a9] t (0, 0)) := heap_setCell_same _ g 0 _ t v0 h0
  have h2 : ((w.setCell ⟨g, 0, none⟩ v0).setCell ⟨g, 1, none⟩ v1).heap[g]? = some (.cells #[v0, v1, a2, a3, a4, a5, a6, a7, a8, a9] t (0, 0)) := heap_setCell_same _ g 1 _ t v1 h1
  have h3 : (((w.setCell ⟨g, 0, none⟩ v0).setCell ⟨g, 1, none⟩ v1).setCell ⟨g, 2, none⟩ v2).heap[g]? = some (.cells #[v0, v1, v2, a3, a4, a5, a6, a7, a8, a9] t (0, 0)) := heap_setCell_same _ g 2 _ t v2 h2
  have h4 : ((((w.setCell ⟨g, 0, none⟩ v0).setCell ⟨g, 1, none⟩ v1).setCell ⟨g, 2, none⟩ v2).setCell ⟨g, 3, none⟩ v3).heap[g]? = some (.cells #[v0, v1, v2, v3, a4, a5, a6, a7, a8, a9] t (0, 0)) := heap_setCell_same _ g 3 _ t v3 h3
  have h5 : (((((w.setCell ⟨g, 0, none⟩ v0).setCell ⟨g, 1, none⟩ v1).setCell ⟨g, 2, none⟩ v2).setCell ⟨g, 3, none⟩ v3).setCell ⟨g, 4, none⟩ v4).heap[g]? = some (.cells #[v0, v1, v2, v3, v4, a5, a6, a7, a8, a9] t (0, 0)) := heap_setCell_same _ g 4 _ t v4 h4
  have h6 : ((((((w.setCell ⟨g, 0, none⟩ v0).setCell ⟨g, 1, none⟩ v1).setCell ⟨g, 2, none⟩ v2).setCell ⟨g, 3, none⟩ v3).setCell ⟨g, 4, none⟩ v4).setCell ⟨g, 5, none⟩ v5).heap[g]? = some (.cells #[v0, v1, v2, v3, v4, v5, a6, a7, a8, a9] t (0, 0)) := heap_setCell_same _ g 5 _ t v5 h5
  have h7 : (((((((w.setCell ⟨g, 0, none⟩ v0).setCell ⟨g, 1, none⟩ v1).setCell ⟨g, 2, none⟩ v2).setCell ⟨g, 3, none⟩ v3).setCell ⟨g, 4, none⟩ v4).setCell ⟨g, 5, none⟩ v5).setCell ⟨g, 6, none⟩ v6).heap[g]? = some (.cells #[v0, v1, v2, v3, v4, v5, v6, a7, a8, a9] t (0, 0)) := heap_setCell_same _ g 6 _ t v6 h6
  have h8 : ((((((((w.setCell ⟨g, 0, none⟩ v0).setCell ⟨g, 1, none⟩ v1).setCell ⟨g, 2, none⟩ v2).setCell ⟨g, 3, none⟩ v3).setCell ⟨g, 4, none⟩ v4).setCell ⟨g, 5, none⟩ v5).setCell ⟨g, 6, none⟩ v6).setCell ⟨g, 7, none⟩ v7).heap[g]? = some (.cells #[v0, v1, v2, v3, v4, v5, v6, v7, a8, a9] t (0, 0)) := heap_setCell_same _ g 7 _ t v7 h7
  have h9 : (((((((((w.setCell ⟨g, 0, none⟩ v0).setCell ⟨g, 1, none⟩ v1).setCell ⟨g, 2, none⟩ v2).setCell ⟨g, 3, none⟩ v3).setCell ⟨g, 4, none⟩ v4).setCell ⟨g, 5, none⟩ v5).setCell ⟨g, 6, none⟩ v6).setCell ⟨g, 7, none⟩ v7).setCell ⟨g, 8, none⟩ v8).heap[g]? = some (.cells #[v0, v1, v2, v3, v4, v5, v6, v7, v8, a9] t (0, 0)) := heap_setCell_same _ g 8 _ t v8 h8
  have h10 : ((((((((((w.setCell ⟨g, 0, none⟩ v0).setCell ⟨g, 1, none⟩ v1).setCell ⟨g, 2, none⟩ v2).setCell ⟨g, 3, none⟩ v3).setCell ⟨g, 4, none⟩ v4).setCell ⟨g, 5, none⟩ v5).setCell ⟨g, 6, none⟩ v6).setCell ⟨g, 7, none⟩ v7).setCell ⟨g, 8, none⟩ v8).setCell ⟨g, 9, none⟩ v9).heap[g]? = some (.cells #[v0, v1, v2, v3, v4, v5, v6, v7, v8, v9] t (0, 0)) := heap_setCell_same _ g 9 _ t v9 h9
  exact h10
theorem set10_other (w : World) (g : Nat) (v0 v1 v2 v3 v4 v5 v6 v7 v8 v9 : Value) {k : Nat} (hk : k ≠ g) : ((((((((((w.setCell ⟨g, 0, none⟩ v0).setCell ⟨g, 1, none⟩ v1).setCell ⟨g, 2, none⟩ v2).setCell ⟨g, 3, none⟩ v3).setCell ⟨g, 4, none⟩ v4).setCell ⟨g, 5, none⟩ v5).setCell ⟨g, 6, none⟩ v6).setCell ⟨g, 7, none⟩ v7).setCell ⟨g, 8, none⟩ v8).setCell ⟨g, 9, none⟩ v9).heap[k]? = w.heap[k]? := by
  rw [heap_setCell_other _ ⟨g, 9, none⟩ k _ hk, heap_setCell_other _ ⟨g, 8, none⟩ k _ hk, heap_setCell_other _ ⟨g, 7, none⟩ k _ hk, heap_setCell_other _ ⟨g, 6, none⟩ k _ hk, heap_setCell_other _ ⟨g, 5, none⟩ k _ hk, heap_setCell_other _ ⟨g, 4, none⟩ k _ hk, heap_setCell_other _ ⟨g, 3, none⟩ k _ hk, heap_setCell_other _ ⟨g, 2, none⟩ k _ hk, heap_setCell_other _ ⟨g, 1, none⟩ k _ hk, heap_setCell_other _ ⟨g, 0, none⟩ k _ hk]
theorem set10_below (w : World) (B g : Nat) (hB : B ≤ g) (v0 v1 v2 v3 v4 v5 v6 v7 v8 v9 : Value) : Below B w ((((((((((w.setCell ⟨g, 0, none⟩ v0).setCell ⟨g, 1, none⟩ v1).setCell ⟨g, 2, none⟩ v2).setCell ⟨g, 3, none⟩ v3).setCell ⟨g, 4, none⟩ v4).setCell ⟨g, 5, none⟩ v5).setCell ⟨g, 6, none⟩ v6).setCell ⟨g, 7, none⟩ v7).setCell ⟨g, 8, none⟩ v8).setCell ⟨g, 9, none⟩ v9) := by
  exact (((((((((((Below.refl B w).setCell (p := ⟨g, 0, none⟩) hB _).setCell (p := ⟨g, 1, none⟩) hB _).setCell (p := ⟨g, 2, none⟩) hB _).setCell (p := ⟨g, 3, none⟩) hB _).setCell (p := ⟨g, 4, none⟩) hB _).setCell (p := ⟨g, 5, none⟩) hB _).setCell (p := ⟨g, 6, none⟩) hB _).setCell (p := ⟨g, 7, none⟩) hB _).setCell (p := ⟨g, 8, none⟩) hB _).setCell (p := ⟨g, 9, none⟩) hB _)
theorem own_move {W W' : World} {b b' t m k : Nat} {v : Value} {vs : List Value} (h : W.ownsRow b t m v k vs) (hk : ∀ g, b ≤ g → W'.heap[g]? = W.heap[g]?) (hb : b' ≤ b) : W'.ownsRow b' t m v k vs := by
  obtain ⟨h1, h2⟩ := h
  refine ⟨h1, ?_⟩
  rcases h2 with h2 | ⟨g, cap, xs, h3, h4, h5, h6⟩
  · exact .inl h2
  · exact .inr ⟨g, cap, xs, h3, Nat.le_trans hb h4, (hk g h4).trans h5, h6⟩
set_option maxHeartbeats 400000 in
theorem alone_any (n : Nd) (W : World) (hr : RdA W n.aA n.attrs) (hA : n.aA = none → n.attrs = []) (hl : n.attrs.length ≤ 1000000) : Calls Try.prog 59 #[.agg n.cs.toArray] W fun e W' => ∃ A c, e = .returned (.agg (aloneNd n A c).cs.toArray) ∧ W'.ownsRow W.heap.size 57 2 (.slice A n.attrs.length c) n.attrs.length (cellsA n.attrs) ∧ Below W.heap.size W W' := by
  obtain ⟨W1, hW1⟩ : ∃ W1, W.alloc (.cells n.cs.toArray 53) = W1 := ⟨_, rfl⟩
  obtain ⟨W2, hW2⟩ : ∃ W2, W1.alloc (.cells #[.int .i64 0, .int .i64 0, .string { data := #[] }, .string { data := #[] }, .slice none 0 0, .string { data := #[] }, .string { data := #[] }, .int .i64 0, .slice none 0 0, .int .i64 0] 53) = W2 := ⟨_, rfl⟩
  have hs1 : W1.heap.size = W.heap.size + 1 := by rw [← hW1, World.size_alloc]
  have hs2 : W2.heap.size = W.heap.size + 1 + 1 := by rw [← hW2, World.size_alloc, hs1]
  have hb1 : Below W.heap.size W W1 := by rw [← hW1]; exact (Below.refl _ W).alloc (Nat.le_refl _) _
  have hb2 : Below W.heap.size W W2 := by rw [← hW2]; exact hb1.alloc (by omega) _
  have g1 : W2.heap[W.heap.size]? = some (.cells n.cs.toArray 53 (0, 0)) := by
    rw [← hW2, Below.heap_alloc _ _ _ (by omega), ← hW1]; exact heap_alloc_new W _
  have g2 : W2.heap[W.heap.size + 1]? = some (.cells #[.int .i64 0, .int .i64 0, .string { data := #[] }, .string { data := #[] }, .slice none 0 0, .string { data := #[] }, .string { data := #[] }, .int .i64 0, .slice none 0 0, .int .i64 0] 53 (0, 0)) := by
    rw [← hW2, ← hs1]; exact heap_alloc_new W1 _
  have k4 : W2.cell? ⟨W.heap.size, 4, none⟩ = some (.slice n.aA n.attrs.length n.ac) := by rw [cell_of_row W2 _ _ _ _ _ g1]; rfl
  have KC := Lib.hid (clone_any n.attrs n.aA n.ac W2 (hr.below hb2) hl hA)
  have HB2 := Lib.hid hb2
  have G1 := Lib.hid g1
  have G2 := Lib.hid g2
  clear hr hA hb1 hb2 g1 g2 hs1
  unfold Nd.cs at hW1 ⊢
  simp only [List.toArray] at hW1
  subst hW1
  go_enter Try.func59, Try.ntmps59
  go_wp2_with fail
  refine KC.out.mono ?_
  rintro e w3 ⟨v, rfl, ho, hb3⟩
  obtain ⟨A, c, rfl⟩ := own_slice ho
  have g1 : w3.heap[W.heap.size]? = some (.cells n.cs.toArray 53 (0, 0)) := (hb3.block _ (by omega)).trans G1.out
  have g2 := (hb3.block (W.heap.size + 1) (by omega)).trans G2.out
  have c0 : w3.cell? ⟨W.heap.size, 0, none⟩ = some (.int .i64 n.kind) := by rw [cell_of_row w3 _ _ _ _ _ g1]; rfl
  have c1 : w3.cell? ⟨W.heap.size, 1, none⟩ = some (.int .i64 n.space) := by rw [cell_of_row w3 _ _ _ _ _ g1]; rfl
  have c2 : w3.cell? ⟨W.heap.size, 2, none⟩ = some (.string n.name) := by rw [cell_of_row w3 _ _ _ _ _ g1]; rfl
  have c3 : w3.cell? ⟨W.heap.size, 3, none⟩ = some (.string n.data) := by rw [cell_of_row w3 _ _ _ _ _ g1]; rfl
  have c4 : w3.cell? ⟨W.heap.size, 4, none⟩ = some (.slice n.aA n.attrs.length n.ac) := by rw [cell_of_row w3 _ _ _ _ _ g1]; rfl
  have c5 : w3.cell? ⟨W.heap.size, 5, none⟩ = some (.string n.pub) := by rw [cell_of_row w3 _ _ _ _ _ g1]; rfl
  have c6 : w3.cell? ⟨W.heap.size, 6, none⟩ = some (.string n.sys) := by rw [cell_of_row w3 _ _ _ _ _ g1]; rfl
  have c7 : w3.cell? ⟨W.heap.size, 7, none⟩ = some (.int .i64 n.up) := by rw [cell_of_row w3 _ _ _ _ _ g1]; rfl
  have c8 : w3.cell? ⟨W.heap.size, 8, none⟩ = some n.kv := by rw [cell_of_row w3 _ _ _ _ _ g1]; rfl
  have c9 : w3.cell? ⟨W.heap.size, 9, none⟩ = some (.int .i64 n.inner) := by rw [cell_of_row w3 _ _ _ _ _ g1]; rfl
  have fz : ∀ j, w3.frozen? ⟨W.heap.size, j, none⟩ = false := Lib.frozen_of_heap g1
  have fz2 : ∀ j, w3.frozen? ⟨W.heap.size + 1, j, none⟩ = false := Lib.frozen_of_heap g2
  have HO := Lib.hid ho
  have HB3 := Lib.hid hb3
  have H1 := Lib.hid g1
  have H2 := Lib.hid g2
  clear ho hb3 g1 g2 G1 G2 KC k4 hW2
  go_upto_region 3 with fail
  obtain ⟨w4, hw4⟩ : ∃ w4, (((w3.setCell ⟨W.heap.size, 4, none⟩ (.slice A n.attrs.length c)).setCell ⟨W.heap.size, 7, none⟩ (.int .i64 (-1))).setCell ⟨W.heap.size, 8, none⟩ (.slice none 0 0)).setCell ⟨W.heap.size, 9, none⟩ (.int .i64 (-1)) = w4 := ⟨_, rfl⟩
  have q1 : w4.heap[W.heap.size]? = some (.cells (aloneNd n A c).cs.toArray 53 (0, 0)) := by
    rw [← hw4]
    exact heap_setCell_same _ _ 9 _ _ _ (heap_setCell_same _ _ 8 _ _ _ (heap_setCell_same _ _ 7 _ _ _ (heap_setCell_same _ _ 4 _ _ _ H1.out)))
  have q3 : ∀ k, W.heap.size ≠ k → w4.heap[k]? = w3.heap[k]? := by
    intro k hk
    have hk' : k ≠ W.heap.size := fun e => hk e.symm
    rw [← hw4, heap_setCell_other _ _ k _ hk', heap_setCell_other _ _ k _ hk', heap_setCell_other _ _ k _ hk', heap_setCell_other _ _ k _ hk']
  have q2 := (q3 (W.heap.size + 1) (by omega)).trans H2.out
  have b4 : Below W.heap.size w3 w4 := by
    rw [← hw4]
    exact ((((Below.refl W.heap.size w3).setCell (p := ⟨W.heap.size, 4, none⟩) (Nat.le_refl _) _).setCell (p := ⟨W.heap.size, 7, none⟩) (Nat.le_refl _) _).setCell (p := ⟨W.heap.size, 8, none⟩) (Nat.le_refl _) _).setCell (p := ⟨W.heap.size, 9, none⟩) (Nat.le_refl _) _
  rw [hw4]
  clear hw4 c0 c1 c2 c3 c4 c5 c6 c7 c8 c9 fz fz2
  have c0 : w4.cell? ⟨W.heap.size, 0, none⟩ = some (.int .i64 n.kind) := by rw [cell_of_row w4 _ _ _ _ _ q1]; rfl
  have c1 : w4.cell? ⟨W.heap.size, 1, none⟩ = some (.int .i64 n.space) := by rw [cell_of_row w4 _ _ _ _ _ q1]; rfl
  have c2 : w4.cell? ⟨W.heap.size, 2, none⟩ = some (.string n.name) := by rw [cell_of_row w4 _ _ _ _ _ q1]; rfl
  have c3 : w4.cell? ⟨W.heap.size, 3, none⟩ = some (.string n.data) := by rw [cell_of_row w4 _ _ _ _ _ q1]; rfl
  have c4 : w4.cell? ⟨W.heap.size, 4, none⟩ = some (.slice A n.attrs.length c) := by rw [cell_of_row w4 _ _ _ _ _ q1]; rfl
  have c5 : w4.cell? ⟨W.heap.size, 5, none⟩ = some (.string n.pub) := by rw [cell_of_row w4 _ _ _ _ _ q1]; rfl
  have c6 : w4.cell? ⟨W.heap.size, 6, none⟩ = some (.string n.sys) := by rw [cell_of_row w4 _ _ _ _ _ q1]; rfl
  have c7 : w4.cell? ⟨W.heap.size, 7, none⟩ = some (.int .i64 (-1)) := by rw [cell_of_row w4 _ _ _ _ _ q1]; rfl
  have c8 : w4.cell? ⟨W.heap.size, 8, none⟩ = some (.slice none 0 0) := by rw [cell_of_row w4 _ _ _ _ _ q1]; rfl
  have c9 : w4.cell? ⟨W.heap.size, 9, none⟩ = some (.int .i64 (-1)) := by rw [cell_of_row w4 _ _ _ _ _ q1]; rfl
  have z0 : w4.cell? ⟨W.heap.size + 1, 0, none⟩ = some (.int .i64 0) := by rw [cell_of_row w4 _ _ _ _ _ q2]; rfl
  have z1 : w4.cell? ⟨W.heap.size + 1, 1, none⟩ = some (.int .i64 0) := by rw [cell_of_row w4 _ _ _ _ _ q2]; rfl
  have z2 : w4.cell? ⟨W.heap.size + 1, 2, none⟩ = some (.string { data := #[] }) := by rw [cell_of_row w4 _ _ _ _ _ q2]; rfl
  have z3 : w4.cell? ⟨W.heap.size + 1, 3, none⟩ = some (.string { data := #[] }) := by rw [cell_of_row w4 _ _ _ _ _ q2]; rfl
  have z4 : w4.cell? ⟨W.heap.size + 1, 4, none⟩ = some (.slice none 0 0) := by rw [cell_of_row w4 _ _ _ _ _ q2]; rfl
  have z5 : w4.cell? ⟨W.heap.size + 1, 5, none⟩ = some (.string { data := #[] }) := by rw [cell_of_row w4 _ _ _ _ _ q2]; rfl
  have z6 : w4.cell? ⟨W.heap.size + 1, 6, none⟩ = some (.string { data := #[] }) := by rw [cell_of_row w4 _ _ _ _ _ q2]; rfl
  have z7 : w4.cell? ⟨W.heap.size + 1, 7, none⟩ = some (.int .i64 0) := by rw [cell_of_row w4 _ _ _ _ _ q2]; rfl
  have z8 : w4.cell? ⟨W.heap.size + 1, 8, none⟩ = some (.slice none 0 0) := by rw [cell_of_row w4 _ _ _ _ _ q2]; rfl
  have z9 : w4.cell? ⟨W.heap.size + 1, 9, none⟩ = some (.int .i64 0) := by rw [cell_of_row w4 _ _ _ _ _ q2]; rfl
  have fz2 : ∀ j, w4.frozen? ⟨W.heap.size + 1, j, none⟩ = false := Lib.frozen_of_heap q2
  have Q1 := Lib.hid q1
  have Q2 := Lib.hid q2
  have Q3 := Lib.hid q3
  have B4 := Lib.hid b4
  clear q1 q2 q3 b4
  go_wp2
  clear c0 c1 c2 c3 c4 c5 c6 c7 c8 c9
  clear z0 z1 z2 z3 z4 z5 z6 z7 z8 z9
  obtain ⟨w5, hw5⟩ : ∃ w5, ((((((((((w4.setCell ⟨W.heap.size + 1, 0, none⟩ (.int .i64 n.kind)).setCell ⟨W.heap.size + 1, 1, none⟩ (.int .i64 n.space)).setCell ⟨W.heap.size + 1, 2, none⟩ (.string n.name)).setCell ⟨W.heap.size + 1, 3, none⟩ (.string n.data)).setCell ⟨W.heap.size + 1, 4, none⟩ (.slice A n.attrs.length c)).setCell ⟨W.heap.size + 1, 5, none⟩ (.string n.pub)).setCell ⟨W.heap.size + 1, 6, none⟩ (.string n.sys)).setCell ⟨W.heap.size + 1, 7, none⟩ (.int .i64 (-1))).setCell ⟨W.heap.size + 1, 8, none⟩ (.slice none 0 0)).setCell ⟨W.heap.size + 1, 9, none⟩ (.int .i64 (-1))) = w5 := ⟨_, rfl⟩
  rw [hw5]
  have r1 : w5.heap[W.heap.size + 1]? = some (.cells (aloneNd n A c).cs.toArray 53 (0, 0)) := by
    rw [← hw5]
    exact set10 w4 (W.heap.size + 1) 53 _ _ _ _ _ _ _ _ _ _ _ _ _ _ _ _ _ _ _ _ Q2.out
  have r3 : ∀ k, W.heap.size + 1 ≠ k → w5.heap[k]? = w4.heap[k]? := by
    intro k hk
    have hk' : k ≠ W.heap.size + 1 := fun e => hk e.symm
    rw [← hw5]
    exact set10_other w4 (W.heap.size + 1) _ _ _ _ _ _ _ _ _ _ hk'
  have b5 : Below W.heap.size w4 w5 := by
    rw [← hw5]
    exact set10_below w4 W.heap.size (W.heap.size + 1) (Nat.le_succ _) _ _ _ _ _ _ _ _ _ _
  clear hw5
  have y0 : w5.cell? ⟨W.heap.size + 1, 0, none⟩ = some (.int .i64 n.kind) := by rw [cell_of_row w5 _ _ _ _ _ r1]; rfl
  have y1 : w5.cell? ⟨W.heap.size + 1, 1, none⟩ = some (.int .i64 n.space) := by rw [cell_of_row w5 _ _ _ _ _ r1]; rfl
  have y2 : w5.cell? ⟨W.heap.size + 1, 2, none⟩ = some (.string n.name) := by rw [cell_of_row w5 _ _ _ _ _ r1]; rfl
  have y3 : w5.cell? ⟨W.heap.size + 1, 3, none⟩ = some (.string n.data) := by rw [cell_of_row w5 _ _ _ _ _ r1]; rfl
  have y4 : w5.cell? ⟨W.heap.size + 1, 4, none⟩ = some (.slice A n.attrs.length c) := by rw [cell_of_row w5 _ _ _ _ _ r1]; rfl
  have y5 : w5.cell? ⟨W.heap.size + 1, 5, none⟩ = some (.string n.pub) := by rw [cell_of_row w5 _ _ _ _ _ r1]; rfl
  have y6 : w5.cell? ⟨W.heap.size + 1, 6, none⟩ = some (.string n.sys) := by rw [cell_of_row w5 _ _ _ _ _ r1]; rfl
  have y7 : w5.cell? ⟨W.heap.size + 1, 7, none⟩ = some (.int .i64 (-1)) := by rw [cell_of_row w5 _ _ _ _ _ r1]; rfl
  have y8 : w5.cell? ⟨W.heap.size + 1, 8, none⟩ = some (.slice none 0 0) := by rw [cell_of_row w5 _ _ _ _ _ r1]; rfl
  have y9 : w5.cell? ⟨W.heap.size + 1, 9, none⟩ = some (.int .i64 (-1)) := by rw [cell_of_row w5 _ _ _ _ _ r1]; rfl
  refine bodyPost_ret (v := .agg (aloneNd n A c).cs.toArray) (by simp [results, Try.results59, go_sem, y0, y1, y2, y3, y4, y5, y6, y7, y8, y9]; rfl) rfl ?_
  refine ⟨A, c, rfl, own_move HO.out (fun k hk => (r3 k (by omega)).trans (Q3.out k (by omega))) (by omega), ((HB2.out.trans (HB3.out.mono (by omega))).trans B4.out).trans b5⟩
end Go.Proofs.Ytojjdnfkcigdbaa
namespace Go.Proofs.Ytojjdnfkcigdbaa
open Go.RowKit Go.Lib

section
variable {base D : Nat} {v v' : Value} {qk : Bool} {ns xs : List Nd} {W W' : World}
/-- a row's block and a kid's, an attribute's are unlike -/
theorem DocM.row_ne (h : DocM base D v qk ns W) {i : Nat} {x : Nd} (hx : ns[i]? = some x) (k : Nat) : (x.kv.ownBlock = some k ∨ x.av.ownBlock = some k) → ¬ (k = D ∨ v.ownBlock = some k) := by
  rintro (e | e) (rfl | e2)
  · exact row_neD (h.kids i x hx) h.hd (by decide) e
  · exact rows_neN (h.kids i x hx) h.row (by decide) k e e2
  · exact row_neD (h.attrs i x hx) h.hd (by decide) e
  · exact rows_neN (h.attrs i x hx) h.row (by decide) k e e2
theorem DocM.row_neD (h : DocM base D v qk ns W) : v.ownBlock ≠ some D := Ytojjdnfkcigdbaa.row_neD h.row h.hd (by decide)
theorem DocM.push (h : DocM base D v qk ns W) (hf : Frm (fun k => k = D ∨ v.ownBlock = some k) W W') (hd : W'.heap[D]? = some (.cells #[v', .bool qk] 49 (0, 0))) (hr : W'.ownsRow base 53 10 v' (ns.length + xs.length) (cellsN ns ++ cellsN xs))
    (hx : ∀ x ∈ xs, x.kv = .slice none 0 0 ∧ x.kids = [] ∧ W'.ownsRow base 57 2 x.av x.attrs.length (cellsA x.attrs)) : DocM base D v' qk (ns ++ xs) W' := by
  have hn : ∀ (i : Nat) (x : Nd), (ns ++ xs)[i]? = some x → ns[i]? = some x ∨ (ns.length ≤ i ∧ x ∈ xs) := by
    intro i x hi
    rcases Nat.lt_or_ge i ns.length with hlt | hge
    · rw [List.getElem?_append_left hlt] at hi; exact .inl hi
    · rw [List.getElem?_append_right hge] at hi; exact .inr ⟨hge, List.mem_of_getElem? hi⟩
  refine ⟨hd, by rw [cellsN_snoc, List.length_append]; exact hr, ?_, ?_, ?_, h.ge⟩
  · intro i x hi
    rcases hn i x hi with h1 | ⟨_, h1⟩
    · exact hf.own (h.kids i x h1) (fun k e => h.row_ne h1 k (.inl e))
    · rw [(hx x h1).1, (hx x h1).2.1]; exact World.ownsRow_nil _ _ _ _
  · intro i x hi
    rcases hn i x hi with h1 | ⟨_, h1⟩
    · exact hf.own (h.attrs i x h1) (fun k e => h.row_ne h1 k (.inr e))
    · exact (hx x h1).2.2
  · intro i j x y g hi hj e1 e2
    rcases hn i x hi with h1 | ⟨_, h1⟩
    · rcases hn j y hj with h2 | ⟨_, h2⟩
      · exact h.apart i j x y g h1 h2 e1 e2
      · rw [(hx y h2).1] at e2; cases e2
    · rw [(hx x h1).1] at e1; cases e1
/-- what a call gives that adds nodes: all else lies as it lay -/
def Adds (base D : Nat) (v : Value) (qk : Bool) (ns ns' : List Nd) (W W' : World) : Prop :=
  ∃ v', DocM base D v' qk ns' W' ∧ Frm (DB D v ns) W W' ∧ ∀ k, DB D v' ns' k → DB D v ns k ∨ W.heap.size ≤ k
theorem DB.push {W : World} (hv : v'.ownBlock = v.ownBlock ∨ ∃ g, v'.ownBlock = some g ∧ W.heap.size ≤ g) (hx : ∀ x ∈ xs, x.kv = .slice none 0 0 ∧ ∀ k, x.av.ownBlock = some k → W.heap.size ≤ k) : ∀ k, DB D v' (ns ++ xs) k → DB D v ns k ∨ W.heap.size ≤ k := by
  rintro k (rfl | e | ⟨i, x, hi, e⟩)
  · exact .inl (.inl rfl)
  · rcases hv with h | ⟨g, h, hg⟩
    · exact .inl (.inr (.inl (h ▸ e)))
    · rw [h] at e; cases e; exact .inr hg
  · rcases Nat.lt_or_ge i ns.length with hlt | hge
    · rw [List.getElem?_append_left hlt] at hi; exact .inl (.inr (.inr ⟨i, x, hi, e⟩))
    · rw [List.getElem?_append_right hge] at hi
      have hm := hx x (List.mem_of_getElem? hi)
      rcases e with e | e
      · rw [hm.1] at e; cases e
      · exact .inr (hm.2 k e)
end
end Go.Proofs.Ytojjdnfkcigdbaa
namespace Go.Proofs.Ytojjdnfkcigdbaa
open Go.RowKit Go.Lib

theorem infoNd : (Try.prog.info? 53).map (fun i => (i.zero, i.size, i.bytes)) = some (some (.agg #[.int .i64 0, .int .i64 0, .string ⟨#[]⟩, .string ⟨#[]⟩, .slice none 0 0, .string ⟨#[]⟩, .string ⟨#[]⟩, .int .i64 0, .slice none 0 0, .int .i64 0]), 10, 144) := by kernel_rfl
theorem cells_add {w : World} {g : Nat} {t : TypeId} {l : List Value} (h : w.heap[g]? = some (.cells l.toArray t (0, 0))) : ∀ j u, l[j]? = some u → w.cell? ((⟨g, 0, none⟩ : Addr).add j) = some u := by
  intro j u hu
  rw [Addr.add_lit, cell_of_row _ _ _ _ _ _ h]
  simpa using hu
theorem alone_one (n : Nd) (A : Option Addr) (c : Nat) : ∀ u ∈ (aloneNd n A c).cs, u.oneCell' = true := by
  intro u hu
  simp only [aloneNd, Nd.cs, List.mem_cons, List.not_mem_nil, or_false] at hu
  rcases hu with rfl | rfl | rfl | rfl | rfl | rfl | rfl | rfl | rfl | rfl <;> rfl
section
variable {base D : Nat} {v : Value} {qk : Bool} {ns : List Nd} {W : World}
set_option maxRecDepth 100000 in
set_option maxHeartbeats 1000000 in
theorem add_plain (n : Nd) (h : DocM base D v qk ns W) (hb : base ≤ W.heap.size) (ht : tplB n = false) (hl : ns.length < 20000) (hr : RdA W n.aA n.attrs) (hA : n.aA = none → n.attrs = []) (hal : n.attrs.length ≤ 1000000) :
    Calls Try.prog 24 #[.pointer (some ⟨D, 0, none⟩), .agg n.cs.toArray] W fun e W' => e = .returned (.int .i64 ns.length) ∧ ∃ A c, Adds base D v qk ns (ns ++ [aloneNd n A c]) W W' := by
  obtain ⟨i0, hi, hz0, hz1, hz2⟩ := info_parts infoNd
  obtain ⟨W1, hW1⟩ : ∃ W1, W.alloc (.cells n.cs.toArray 53) = W1 := ⟨_, rfl⟩
  have hs1 : W1.heap.size = W.heap.size + 1 := by rw [← hW1, World.size_alloc]
  have hb1 : Below W.heap.size W W1 := by rw [← hW1]; exact (Below.refl _ W).alloc (Nat.le_refl _) _
  have g1 : W1.heap[W.heap.size]? = some (.cells n.cs.toArray 53 (0, 0)) := by rw [← hW1]; exact heap_alloc_new W _
  obtain ⟨An, cap, rfl, hle, hmx, hg⟩ := h.sl
  have d0 := (h.below hb1).cells.1
  have l0 : W1.cell? ⟨W.heap.size, 0, none⟩ = some (.int .i64 n.kind) := by rw [cell_of_row W1 _ _ _ _ _ g1]; rfl
  have l1 : W1.cell? ⟨W.heap.size, 1, none⟩ = some (.int .i64 n.space) := by rw [cell_of_row W1 _ _ _ _ _ g1]; rfl
  have l2 : W1.cell? ⟨W.heap.size, 2, none⟩ = some (.string n.name) := by rw [cell_of_row W1 _ _ _ _ _ g1]; rfl
  have l3 : W1.cell? ⟨W.heap.size, 3, none⟩ = some (.string n.data) := by rw [cell_of_row W1 _ _ _ _ _ g1]; rfl
  have l4 : W1.cell? ⟨W.heap.size, 4, none⟩ = some (.slice n.aA n.attrs.length n.ac) := by rw [cell_of_row W1 _ _ _ _ _ g1]; rfl
  have l5 : W1.cell? ⟨W.heap.size, 5, none⟩ = some (.string n.pub) := by rw [cell_of_row W1 _ _ _ _ _ g1]; rfl
  have l6 : W1.cell? ⟨W.heap.size, 6, none⟩ = some (.string n.sys) := by rw [cell_of_row W1 _ _ _ _ _ g1]; rfl
  have l7 : W1.cell? ⟨W.heap.size, 7, none⟩ = some (.int .i64 n.up) := by rw [cell_of_row W1 _ _ _ _ _ g1]; rfl
  have l8 : W1.cell? ⟨W.heap.size, 8, none⟩ = some n.kv := by rw [cell_of_row W1 _ _ _ _ _ g1]; rfl
  have l9 : W1.cell? ⟨W.heap.size, 9, none⟩ = some (.int .i64 n.inner) := by rw [cell_of_row W1 _ _ _ _ _ g1]; rfl
  have KA := Lib.hid (alone_any n W1 (hr.below hb1) hA hal)
  have HB1 := Lib.hid hb1
  have HD := Lib.hid h
  have G1 := Lib.hid g1
  have HT := Lib.hid ht
  have hD : D < W.heap.size := h.lt
  have HB := Lib.hid hb
  have HS1 := Lib.hid hs1
  have HMX := Lib.hid hmx
  have HL := Lib.hid hl
  have HLE := Lib.hid hle
  have g2 : decide ((20000 : Int) < (ns.length : Int) + 1) = false := decide_eq_false (by omega)
  clear hr hA hb1 g1 h ht hg hb hs1 hmx hle
  unfold Nd.cs at hW1 KA ⊢
  simp only [List.toArray] at hW1
  subst hW1
  go_enter Try.func24, Try.ntmps24
  go_wp2_with fail
  refine KA.out.mono ?_
  rintro e w2 ⟨A, c, rfl, hoA, hb2⟩
  have g1 : w2.heap[W.heap.size]? = some (.cells n.cs.toArray 53 (0, 0)) := (hb2.block _ (by rw [World.size_alloc]; omega)).trans G1.out
  have hbw : Below W.heap.size W w2 := HB1.out.trans (hb2.mono (by rw [World.size_alloc]; omega))
  have hd2 := HD.out.below hbw
  have hs2 := hbw.size
  have hs2' : W.heap.size < w2.heap.size := (Array.getElem?_eq_some_iff.1 g1).1
  clear l0 l1 l2 l3 l4 l5 l6 l7 l8 l9 d0 KA
  obtain ⟨W3, hW3⟩ : ∃ W3, w2.alloc (.cells (aloneNd n A c).cs.toArray 53) = W3 := ⟨_, rfl⟩
  have hb3 : Below w2.heap.size w2 W3 := by rw [← hW3]; exact (Below.refl _ w2).alloc (Nat.le_refl _) _
  have hs3 : W3.heap.size = w2.heap.size + 1 := by rw [← hW3, World.size_alloc]
  have g3 : W3.heap[w2.heap.size]? = some (.cells (aloneNd n A c).cs.toArray 53 (0, 0)) := by rw [← hW3]; exact heap_alloc_new w2 _
  have q1 := (hb3.block _ hs2').trans g1
  have l0 : W3.cell? ⟨W.heap.size, 0, none⟩ = some (.int .i64 n.kind) := by rw [cell_of_row W3 _ _ _ _ _ q1]; rfl
  have l1 : W3.cell? ⟨W.heap.size, 1, none⟩ = some (.int .i64 n.space) := by rw [cell_of_row W3 _ _ _ _ _ q1]; rfl
  have l2 : W3.cell? ⟨W.heap.size, 2, none⟩ = some (.string n.name) := by rw [cell_of_row W3 _ _ _ _ _ q1]; rfl
  have l3 : W3.cell? ⟨W.heap.size, 3, none⟩ = some (.string n.data) := by rw [cell_of_row W3 _ _ _ _ _ q1]; rfl
  have l4 : W3.cell? ⟨W.heap.size, 4, none⟩ = some (.slice n.aA n.attrs.length n.ac) := by rw [cell_of_row W3 _ _ _ _ _ q1]; rfl
  have l5 : W3.cell? ⟨W.heap.size, 5, none⟩ = some (.string n.pub) := by rw [cell_of_row W3 _ _ _ _ _ q1]; rfl
  have l6 : W3.cell? ⟨W.heap.size, 6, none⟩ = some (.string n.sys) := by rw [cell_of_row W3 _ _ _ _ _ q1]; rfl
  have l7 : W3.cell? ⟨W.heap.size, 7, none⟩ = some (.int .i64 n.up) := by rw [cell_of_row W3 _ _ _ _ _ q1]; rfl
  have l8 : W3.cell? ⟨W.heap.size, 8, none⟩ = some n.kv := by rw [cell_of_row W3 _ _ _ _ _ q1]; rfl
  have l9 : W3.cell? ⟨W.heap.size, 9, none⟩ = some (.int .i64 n.inner) := by rw [cell_of_row W3 _ _ _ _ _ q1]; rfl
  have KT := isTpl_any n W3
  rw [HT.out] at KT
  have KTH := Lib.hid KT
  have HBW := Lib.hid hbw
  have HD2 := Lib.hid hd2
  have HS2 := Lib.hid hs2
  have HS2' := Lib.hid hs2'
  have HB3 := Lib.hid hb3
  have HS3 := Lib.hid hs3
  have G3 := Lib.hid g3
  have HOA := Lib.hid hoA
  have HB2 := Lib.hid hb2
  clear KT hbw hd2 hs2 hs2' hb3 hs3 g3 q1 hoA hb2 g1 HB1 G1 hD
  unfold Nd.cs at hW3 KTH
  subst hW3
  go_wp2_with fail
  refine KTH.out.mono ?_
  rintro e w4 ⟨rfl, hb4⟩
  have hd4 := (HD2.out.below HB3.out).below hb4
  have g4 := (hb4.block w2.heap.size (by have := HS3.out; omega)).trans G3.out
  have hs4 := hb4.size
  have c0 := hd4.cells.1
  have hdD := hd4.lt
  have HDD := Lib.hid hd4.hd
  have HNE := Lib.hid hd4.row_neD
  have HROW := Lib.hid hd4.row
  have HNEW := Lib.hid (cells_add g4)
  have h63 : ns.length + 1 ≤ maxLen := by have := HL.out; unfold maxLen; omega
  have H63 := Lib.hid h63
  have hby : (ns.length + 1) * 144 ≤ 140737488355328 := by have := HL.out; omega
  have HBY := Lib.hid hby
  have hb4z : base ≤ w4.heap.size := by have := HB.out; have := HS2.out; have := HS3.out; omega
  have HB4Z := Lib.hid hb4z
  have HB4 := Lib.hid hb4
  have HD4 := Lib.hid hd4
  have HDL := Lib.hid hdD
  clear hb4 hd4 g4 hs4 h63 hby hb4z hdD l0 l1 l2 l3 l4 l5 l6 l7 l8 l9
  go_wp2_with (at_builtin; refine wpList_append_own_at _ rfl _ _ 47 rfl base 53 i0 _ 10 144 Try.underlying47 hi hz0 hz1 hz2 rfl (by decide) _ ns.length (cellsN ns) rfl HROW.out ⟨w2.heap.size, 0, none⟩ 1 1 (aloneNd n A c).cs rfl rfl HNEW.out (alone_one n A c) H63.out HBY.out HB4Z.out ?_; intro v' w5 hown5 hgrow5 hz5 hblk5; clear hz5; obtain ⟨A5, c5, rfl⟩ := own_slice hown5; have hd5 := (hgrow5.block D HDL.out (fun e => HNE.out e.symm)).trans HDD.out; have fz5 : w5.frozen? ⟨D, 0, none⟩ = false := (by simp [World.frozen?, hd5]); have c05 : w5.cell? ⟨D, 0, none⟩ = some (.slice An ns.length cap) := (by rw [cell_of_row _ _ _ _ _ _ hd5]; rfl))
  go_ret
  clear c0 c05 fz5
  have hf5 : Frm (fun k => k = D ∨ (Value.slice An ns.length cap).ownBlock = some k) W (w5.setCell ⟨D, 0, none⟩ (.slice A5 (ns.length + 1) c5)) := by
    refine (Frm.trans ?_ (Frm.grown hgrow5 (fun k e => .inr e))).trans (Frm.set _ (.inl rfl))
    exact Frm.below ((HBW.out.trans (HB3.out.mono HS2.out)).trans (HB4.out.mono (by have := HS3.out; have := HS2.out; omega)))
  have hd6 : (w5.setCell ⟨D, 0, none⟩ (.slice A5 (ns.length + 1) c5)).heap[D]? = some (.cells #[.slice A5 (ns.length + 1) c5, .bool qk] 49 (0, 0)) := heap_setCell_same _ D 0 _ _ _ hd5
  have hne5 : (Value.slice A5 (ns.length + 1) c5).ownBlock ≠ some D := row_neD hown5 hd5 (by decide)
  have hr6 := (Frm.set (S := fun k => k = D) (A := w5) (p := ⟨D, 0, none⟩) (.slice A5 (ns.length + 1) c5) rfl).own hown5 (fun k e h => hne5 (h ▸ e))
  have hoA4 := own_keep (own_keep HOA.out HB3.out) HB4.out
  have hoA5 := (Frm.grown (S := fun k => (Value.slice An ns.length cap).ownBlock = some k) hgrow5 (fun k e => e)).own hoA4 (fun k e h => rows_neN hoA4 HROW.out (by decide) k e h)
  have hoA6 := (Frm.set (S := fun k => k = D) (A := w5) (p := ⟨D, 0, none⟩) (.slice A5 (ns.length + 1) c5) rfl).own hoA5 (fun k e h => row_neD hoA5 hd5 (by decide) (h ▸ e))
  refine ⟨rfl, A, c, .slice A5 (ns.length + 1) c5, ?_, hf5.mono (fun k h => by rcases h with h | h; exact .inl h; exact .inr (.inl h)), ?_⟩
  · refine HD.out.push hf5 hd6 (by simpa [cellsN] using hr6) ?_
    intro x hx
    simp at hx
    subst hx
    refine ⟨rfl, rfl, own_move hoA6 (fun _ _ => rfl) ?_⟩
    have := HB.out
    rw [World.size_alloc]
    omega
  · refine DB.push ?_ ?_
    · rcases hblk5 with h | h
      · exact .inl h
      · exact .inr ⟨_, h, by have := HB4.out.size; have := HS3.out; have := HS2.out; omega⟩
    · intro x hx
      simp at hx
      subst hx
      refine ⟨rfl, fun k e => ?_⟩
      have := (HOA.out.lt k e).1
      rw [World.size_alloc] at this
      omega
end
end Go.Proofs.Ytojjdnfkcigdbaa
