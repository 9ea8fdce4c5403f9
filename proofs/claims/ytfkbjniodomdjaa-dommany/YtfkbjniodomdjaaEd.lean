/- page, New, alone, isTemplate. -/
import Derived.Test.YtfkbjniodomdjaaEc
import Derived.Deep.DeepCutAuto
namespace Go.Proofs.Ytfkbjniodomdjaa
open Go.RowKit Go.Lib

def pageNd : Nd := ⟨1, 0, ⟨#[]⟩, ⟨#[]⟩, none, [], 0, ⟨#[]⟩, ⟨#[]⟩, -1, .slice none 0 0, [], -1⟩
theorem page_any (W : World) : Calls Try.prog 52 #[] W fun e W' => e = .returned (.agg pageNd.cs.toArray) ∧ W' = W.alloc (.cells pageNd.cs.toArray 53) := by
  unfold pageNd Nd.cs
  go_enter Try.func52, Try.ntmps52
  go_wp2
  refine bodyPost_ret (by simp [results, Try.results52, go_sem]; rfl) rfl ?_
  simp
theorem New_any (W : World) : Calls Try.prog 21 #[] W fun e W' => ∃ D v, e = .returned (.pointer (some ⟨D, 0, none⟩)) ∧ DocM W.heap.size D v false [pageNd] W' ∧ Below W.heap.size W W' := by
  obtain ⟨W1, hW1⟩ : ∃ W1, W.alloc (.cells pageNd.cs.toArray 53) = W1 := ⟨_, rfl⟩
  have hb1 : Below W.heap.size W W1 := by rw [← hW1]; exact (Below.refl _ W).alloc (Nat.le_refl _) _
  have hs1 : W.heap.size ≤ W1.heap.size := by rw [← hW1, World.size_alloc]; omega
  have KP := Lib.hid (page_any W)
  rw [hW1] at KP
  clear hW1
  unfold pageNd Nd.cs at KP
  simp only [List.length_nil] at KP
  go_enter Try.func21, Try.ntmps21
  go_wp2_with fail
  refine KP.out.mono ?_
  rintro e w1 ⟨rfl, rfl⟩
  go_wp2
  go_ret
  refine ⟨w1.heap.size + 1, .slice (some ⟨w1.heap.size, 0, none⟩) 1 1, rfl, ⟨?_, ?_, ?_, ?_, ?_, by omega⟩, (hb1.alloc hs1 _).alloc (by simp; omega) _⟩
  · have := heap_alloc_new (w1.alloc (.cells pageNd.cs.toArray 53)) (.cells #[.slice (some ⟨w1.heap.size, 0, none⟩) 1 1, .bool false] 49)
    rw [World.size_alloc] at this
    exact this
  · refine ⟨by rw [cellsN_len], .inr ⟨w1.heap.size, 1, pageNd.cs.toArray, rfl, hs1, ?_, Nat.le_refl _, by decide, rfl, rfl⟩⟩
    exact (Below.heap_alloc _ _ _ (by simp)).trans (heap_alloc_new w1 _)
  · intro i x hx
    match i, hx with
    | 0, hx => simp at hx; subst hx; exact World.ownsRow_nil _ _ _ _
    | i + 1, hx => simp at hx
  · intro i x hx
    match i, hx with
    | 0, hx => simp at hx; subst hx; exact World.ownsRow_nil _ _ _ _
    | i + 1, hx => simp at hx
  · intro i j x y g hx hy h1 h2
    match i, hx with
    | 0, hx => simp at hx; subst hx; cases h1
    | i + 1, hx => simp at hx
/-- whether a node is a template -/
def tplB (n : Nd) : Bool := n.kind == 2 && n.space == 0 && n.name.toList == [116, 101, 109, 112, 108, 97, 116, 101]
set_option maxHeartbeats 400000 in
theorem isTpl_any (n : Nd) (W : World) : Calls Try.prog 59 #[.agg n.cs.toArray] W fun e W' => e = .returned (.bool (tplB n)) ∧ Below W.heap.size W W' := by
  unfold tplB
  unfold Nd.cs
  cases h1 : (n.kind == 2) with
  | false =>
    go_enter Try.func59, Try.ntmps59
    go_wp2
    go_ret
    exact ⟨rfl, by first | exact Below.refl _ _ | exact (Below.refl _ W).alloc (Nat.le_refl _) _⟩
  | true =>
    cases h2 : (n.space == 0) with
    | false =>
      go_enter Try.func59, Try.ntmps59
      go_wp2
      go_ret
      exact ⟨rfl, by first | exact Below.refl _ _ | exact (Below.refl _ W).alloc (Nat.le_refl _) _⟩
    | true =>
      go_enter Try.func59, Try.ntmps59
      go_wp2
      go_ret
      exact ⟨(by simp only [Bool.true_and]; rfl), by first | exact Below.refl _ _ | exact (Below.refl _ W).alloc (Nat.le_refl _) _⟩
/-- a node alone: its attributes copied, no place, no kids -/
def aloneNd (n : Nd) (A : Option Addr) (c : Nat) : Nd := { n with aA := A, ac := c, up := -1, kv := .slice none 0 0, kids := [], inner := -1 }
theorem own_slice {W : World} {b t m k : Nat} {v : Value} {vs : List Value} (h : W.ownsRow b t m v k vs) : ∃ A c, v = .slice A k c := by
  obtain ⟨h1, h2⟩ := h
  rcases h2 with h2 | h2
  · obtain ⟨h3, h4⟩ := h2
    exact ⟨none, 0, by rw [h3]; simp_all⟩
  · obtain ⟨g, cap, xs, h3, _⟩ := h2
    exact ⟨_, _, h3⟩
/-- ten cells stored, one after the other -/
theorem set10 (w : World) (g t : Nat) (a0 a1 a2 a3 a4 a5 a6 a7 a8 a9 v0 v1 v2 v3 v4 v5 v6 v7 v8 v9 : Value) (h : w.heap[g]? = some (.cells #[a0, a1, a2, a3, a4, a5, a6, a7, a8, a9] t (0, 0))) : ((((((((((w.setCell ⟨g, 0, none⟩ v0).setCell ⟨g, 1, none⟩ v1).setCell ⟨g, 2, none⟩ v2).setCell ⟨g, 3, none⟩ v3).setCell ⟨g, 4, none⟩ v4).setCell ⟨g, 5, none⟩ v5).setCell ⟨g, 6, none⟩ v6).setCell ⟨g, 7, none⟩ v7).setCell ⟨g, 8, none⟩ v8).setCell ⟨g, 9, none⟩ v9).heap[g]? = some (.cells #[v0, v1, v2, v3, v4, v5, v6, v7, v8, v9] t (0, 0)) := by
  have h0 := h
  have h1 : (w.setCell ⟨g, 0, none⟩ v0).heap[g]? = some (.cells #[v0, a1, a2, a3, a4, a5, a6, a7, a8, a9] t (0, 0)) := heap_setCell_same _ g 0 _ t v0 h0
  have h2 : ((w.setCell ⟨g, 0, none⟩ v0).setCell ⟨g, 1, none⟩ v1).heap[g]? = some (.cells #[v0, v1, a2, a3, a4, a5, a6, a7, a8, a9] t (0, 0)) := heap_setCell_same _ g 1 _ t v1 h1
  have h3 : (((w.setCell ⟨g, 0, none⟩ v0).setCell ⟨g, 1, none⟩ v1).setCell ⟨g, 2, none⟩ v2).heap[g]? = some (.cells #[v0, v1, v2, a3, a4, a5, a6, a7, a8, a9] t (0, 0)) := heap_setCell_same _ g 2 _ t v2 h2
  have h4 : ((((w.setCell ⟨g, 0, none⟩ v0).setCell ⟨g, 1, none⟩ v1).setCell ⟨g, 2, none⟩ v2).setCell ⟨g, 3, none⟩ v3).heap[g]? = some (.cells #[v0, v1, v2, v3, a4, a5, a6, a7, a8, a9] t (0, 0)) := heap_setCell_same _ g 3 _ t v3 h3
  have h5 : (((((w.setCell ⟨g, 0, none⟩ v0).setCell ⟨g, 1, none⟩ v1).setCell ⟨g, 2, none⟩ v2).setCell ⟨g, 3, none⟩ v3).setCell ⟨g, 4, none⟩ v4).heap[g]? = some (.cells #[v0, v1, v2, v3, v4, a5, a6, a7, a8, a9] t (0, 0)) := heap_setCell_same _ g 4 _ t v4 h4
  have h6 : ((((((w.setCell ⟨g, 0, none⟩ v0).setCell ⟨g, 1, none⟩ v1).setCell ⟨g, 2, none⟩ v2).setCell ⟨g, 3, none⟩ v3).setCell ⟨g, 4, none⟩ v4).setCell ⟨g, 5, none⟩ v5).heap[g]? = some (.cells #[v0, v1, v2, v3, v4, v5, a6, a7, a8, a9] t (0, 0)) := heap_setCell_same _ g 5 _ t v5 h5
  have h7 : (((((((w.setCell ⟨g, 0, none⟩ v0).setCell ⟨g, 1, none⟩ v1).setCell ⟨g, 2, none⟩ v2).setCell ⟨g, 3, none⟩ v3).setCell ⟨g, 4, none⟩ v4).setCell ⟨g, 5, none⟩ v5).setCell ⟨g, 6, none⟩ v6).heap[g]? = some (.cells #[v0, v1, v2, v3, v4, v5, v6, a7, a8, a9] t (0, 0)) := heap_setCell_same _ g 6 _ t v6 h6
  have h8 : ((((((((w.setCell ⟨g, 0, none⟩ v0).setCell ⟨g, 1, none⟩ v1).setCell ⟨g, 2, none⟩ v2).setCell ⟨g, 3, none⟩ v3).setCell ⟨g, 4, none⟩ v4).setCell ⟨g, 5, none⟩ v5).setCell ⟨g, 6, none⟩ v6).setCell ⟨g, 7, none⟩ v7).heap[g]? = some (.cells #[v0, v1, v2, v3, v4, v5, v6, v7, a8, a9] t (0, 0)) := heap_setCell_same _ g 7 _ t v7 h7
  have h9 : (((((((((w.setCell ⟨g, 0, none⟩ v0).setCell ⟨g, 1, none⟩ v1).setCell ⟨g, 2, none⟩ v2).setCell ⟨g, 3, none⟩ v3).setCell ⟨g, 4, none⟩ v4).setCell ⟨g, 5, none⟩ v5).setCell ⟨g, 6, none⟩ v6).setCell ⟨g, 7, none⟩ v7).setCell ⟨g, 8, none⟩ v8).heap[g]? = some (.cells #[v0, v1, v2, v3, v4, v5, v6, v7, v8, a9] t (0, 0)) := heap_setCell_same _ g 8 _ t v8 h8
  have h10 : ((((((((((w.setCell ⟨g, 0, none⟩ v0).setCell ⟨g, 1, none⟩ v1).setCell ⟨g, 2, none⟩ v2).setCell ⟨g, 3, none⟩ v3).setCell ⟨g, 4, none⟩ v4).setCell ⟨g, 5, none⟩ v5).setCell ⟨g, 6, none⟩ v6).setCell ⟨g, 7, none⟩ v7).setCell ⟨g, 8, none⟩ v8).setCell ⟨g, 9, none⟩ v9).heap[g]? = some (.cells #[v0, v1, v2, v3, v4, v5, v6, v7, v8, v9] t (0, 0)) := heap_setCell_same _ g 9 _ t v9 h9
  exact h10
theorem set10_other (w : World) (g : Nat) (v0 v1 v2 v3 v4 v5 v6 v7 v8 v9 : Value) {k : Nat} (hk : k ≠ g) : ((((((((((w.setCell ⟨g, 0, none⟩ v0).setCell ⟨g, 1, none⟩ v1).setCell ⟨g, 2, none⟩ v2).setCell ⟨g, 3, none⟩ v3).setCell ⟨g, 4, none⟩ v4).setCell ⟨g, 5, none⟩ v5).setCell ⟨g, 6, none⟩ v6).setCell ⟨g, 7, none⟩ v7).setCell ⟨g, 8, none⟩ v8).setCell ⟨g, 9, none⟩ v9).heap[k]? = w.heap[k]? := by
  rw [heap_setCell_other _ ⟨g, 9, none⟩ k _ hk, heap_setCell_other _ ⟨g, 8, none⟩ k _ hk, heap_setCell_other _ ⟨g, 7, none⟩ k _ hk, heap_setCell_other _ ⟨g, 6, none⟩ k _ hk, heap_setCell_other _ ⟨g, 5, none⟩ k _ hk, heap_setCell_other _ ⟨g, 4, none⟩ k _ hk, heap_setCell_other _ ⟨g, 3, none⟩ k _ hk, heap_setCell_other _ ⟨g, 2, none⟩ k _ hk, heap_setCell_other _ ⟨g, 1, none⟩ k _ hk, heap_setCell_other _ ⟨g, 0, none⟩ k _ hk]
theorem set10_below (w : World) (B g : Nat) (hB : B ≤ g) (v0 v1 v2 v3 v4 v5 v6 v7 v8 v9 : Value) : Below B w ((((((((((w.setCell ⟨g, 0, none⟩ v0).setCell ⟨g, 1, none⟩ v1).setCell ⟨g, 2, none⟩ v2).setCell ⟨g, 3, none⟩ v3).setCell ⟨g, 4, none⟩ v4).setCell ⟨g, 5, none⟩ v5).setCell ⟨g, 6, none⟩ v6).setCell ⟨g, 7, none⟩ v7).setCell ⟨g, 8, none⟩ v8).setCell ⟨g, 9, none⟩ v9) := by
  exact (((((((((((Below.refl B w).setCell (p := ⟨g, 0, none⟩) hB _).setCell (p := ⟨g, 1, none⟩) hB _).setCell (p := ⟨g, 2, none⟩) hB _).setCell (p := ⟨g, 3, none⟩) hB _).setCell (p := ⟨g, 4, none⟩) hB _).setCell (p := ⟨g, 5, none⟩) hB _).setCell (p := ⟨g, 6, none⟩) hB _).setCell (p := ⟨g, 7, none⟩) hB _).setCell (p := ⟨g, 8, none⟩) hB _).setCell (p := ⟨g, 9, none⟩) hB _)
theorem own_move {W W' : World} {b b' t m k : Nat} {v : Value} {vs : List Value} (h : W.ownsRow b t m v k vs) (hk : ∀ g, b ≤ g → W'.heap[g]? = W.heap[g]?) (hb : b' ≤ b) : W'.ownsRow b' t m v k vs := by
  obtain ⟨h1, h2⟩ := h
  refine ⟨h1, ?_⟩
  rcases h2 with h2 | ⟨g, cap, xs, h3, h4, h5, h6⟩
  · exact .inl h2
  · exact .inr ⟨g, cap, xs, h3, Nat.le_trans hb h4, (hk g h4).trans h5, h6⟩
set_option maxHeartbeats 400000 in
theorem alone_any (n : Nd) (W : World) (hr : RdA W n.aA n.attrs) (hA : n.aA = none → n.attrs = []) (hl : n.attrs.length ≤ 1000000) : Calls Try.prog 58 #[.agg n.cs.toArray] W fun e W' => ∃ A c, e = .returned (.agg (aloneNd n A c).cs.toArray) ∧ W'.ownsRow W.heap.size 57 2 (.slice A n.attrs.length c) n.attrs.length (cellsA n.attrs) ∧ Below W.heap.size W W' := by
  obtain ⟨W1, hW1⟩ : ∃ W1, W.alloc (.cells n.cs.toArray 53) = W1 := ⟨_, rfl⟩
  obtain ⟨W2, hW2⟩ : ∃ W2, W1.alloc (.cells #[.int .i64 0, .int .i64 0, .string { data := #[] }, .string { data := #[] }, .slice none 0 0, .string { data := #[] }, .string { data := #[] }, .int .i64 0, .slice none 0 0, .int .i64 0] 53) = W2 := ⟨_, rfl⟩
  have hs1 : W1.heap.size = W.heap.size + 1 := by rw [← hW1, World.size_alloc]
  have hs2 : W2.heap.size = W.heap.size + 1 + 1 := by rw [← hW2, World.size_alloc, hs1]
  have hb1 : Below W.heap.size W W1 := by rw [← hW1]; exact (Below.refl _ W).alloc (Nat.le_refl _) _
  have hb2 : Below W.heap.size W W2 := by rw [← hW2]; exact hb1.alloc (by omega) _
  have g1 : W2.heap[W.heap.size]? = some (.cells n.cs.toArray 53 (0, 0)) := by
    rw [← hW2, Below.heap_alloc _ _ _ (by omega), ← hW1]; exact heap_alloc_new W _
  have g2 : W2.heap[W.heap.size + 1]? = some (.cells #[.int .i64 0, .int .i64 0, .string { data := #[] }, .string { data := #[] }, .slice none 0 0, .string { data := #[] }, .string { data := #[] }, .int .i64 0, .slice none 0 0, .int .i64 0] 53 (0, 0)) := by
    rw [← hW2, ← hs1]; exact heap_alloc_new W1 _
  have k4 : W2.cell? ⟨W.heap.size, 4, none⟩ = some (.slice n.aA n.attrs.length n.ac) := by rw [cell_of_row W2 _ _ _ _ _ g1]; rfl
  have KC := Lib.hid (clone_any n.attrs n.aA n.ac W2 (hr.below hb2) hl hA)
  have HB2 := Lib.hid hb2
  have G1 := Lib.hid g1
  have G2 := Lib.hid g2
  clear hr hA hb1 hb2 g1 g2 hs1
  unfold Nd.cs at hW1 ⊢
  simp only [List.toArray] at hW1
  subst hW1
  go_enter Try.func58, Try.ntmps58
  go_wp2_with fail
  refine KC.out.mono ?_
  rintro e w3 ⟨v, rfl, ho, hb3⟩
  obtain ⟨A, c, rfl⟩ := own_slice ho
  have g1 : w3.heap[W.heap.size]? = some (.cells n.cs.toArray 53 (0, 0)) := (hb3.block _ (by omega)).trans G1.out
  have g2 := (hb3.block (W.heap.size + 1) (by omega)).trans G2.out
  have c0 : w3.cell? ⟨W.heap.size, 0, none⟩ = some (.int .i64 n.kind) := by rw [cell_of_row w3 _ _ _ _ _ g1]; rfl
  have c1 : w3.cell? ⟨W.heap.size, 1, none⟩ = some (.int .i64 n.space) := by rw [cell_of_row w3 _ _ _ _ _ g1]; rfl
  have c2 : w3.cell? ⟨W.heap.size, 2, none⟩ = some (.string n.name) := by rw [cell_of_row w3 _ _ _ _ _ g1]; rfl
  have c3 : w3.cell? ⟨W.heap.size, 3, none⟩ = some (.string n.data) := by rw [cell_of_row w3 _ _ _ _ _ g1]; rfl
  have c4 : w3.cell? ⟨W.heap.size, 4, none⟩ = some (.slice n.aA n.attrs.length n.ac) := by rw [cell_of_row w3 _ _ _ _ _ g1]; rfl
  have c5 : w3.cell? ⟨W.heap.size, 5, none⟩ = some (.string n.pub) := by rw [cell_of_row w3 _ _ _ _ _ g1]; rfl
  have c6 : w3.cell? ⟨W.heap.size, 6, none⟩ = some (.string n.sys) := by rw [cell_of_row w3 _ _ _ _ _ g1]; rfl
  have c7 : w3.cell? ⟨W.heap.size, 7, none⟩ = some (.int .i64 n.up) := by rw [cell_of_row w3 _ _ _ _ _ g1]; rfl
  have c8 : w3.cell? ⟨W.heap.size, 8, none⟩ = some n.kv := by rw [cell_of_row w3 _ _ _ _ _ g1]; rfl
  have c9 : w3.cell? ⟨W.heap.size, 9, none⟩ = some (.int .i64 n.inner) := by rw [cell_of_row w3 _ _ _ _ _ g1]; rfl
  have fz : ∀ j, w3.frozen? ⟨W.heap.size, j, none⟩ = false := Lib.frozen_of_heap g1
  have fz2 : ∀ j, w3.frozen? ⟨W.heap.size + 1, j, none⟩ = false := Lib.frozen_of_heap g2
  have HO := Lib.hid ho
  have HB3 := Lib.hid hb3
  have H1 := Lib.hid g1
  have H2 := Lib.hid g2
  clear ho hb3 g1 g2 G1 G2 KC k4 hW2
  go_upto_region 3 with fail
  obtain ⟨w4, hw4⟩ : ∃ w4, (((w3.setCell ⟨W.heap.size, 4, none⟩ (.slice A n.attrs.length c)).setCell ⟨W.heap.size, 7, none⟩ (.int .i64 (-1))).setCell ⟨W.heap.size, 8, none⟩ (.slice none 0 0)).setCell ⟨W.heap.size, 9, none⟩ (.int .i64 (-1)) = w4 := ⟨_, rfl⟩
  have q1 : w4.heap[W.heap.size]? = some (.cells (aloneNd n A c).cs.toArray 53 (0, 0)) := by
    rw [← hw4]
    exact heap_setCell_same _ _ 9 _ _ _ (heap_setCell_same _ _ 8 _ _ _ (heap_setCell_same _ _ 7 _ _ _ (heap_setCell_same _ _ 4 _ _ _ H1.out)))
  have q3 : ∀ k, W.heap.size ≠ k → w4.heap[k]? = w3.heap[k]? := by
    intro k hk
    have hk' : k ≠ W.heap.size := fun e => hk e.symm
    rw [← hw4, heap_setCell_other _ _ k _ hk', heap_setCell_other _ _ k _ hk', heap_setCell_other _ _ k _ hk', heap_setCell_other _ _ k _ hk']
  have q2 := (q3 (W.heap.size + 1) (by omega)).trans H2.out
  have b4 : Below W.heap.size w3 w4 := by
    rw [← hw4]
    exact ((((Below.refl W.heap.size w3).setCell (p := ⟨W.heap.size, 4, none⟩) (Nat.le_refl _) _).setCell (p := ⟨W.heap.size, 7, none⟩) (Nat.le_refl _) _).setCell (p := ⟨W.heap.size, 8, none⟩) (Nat.le_refl _) _).setCell (p := ⟨W.heap.size, 9, none⟩) (Nat.le_refl _) _
  rw [hw4]
  clear hw4 c0 c1 c2 c3 c4 c5 c6 c7 c8 c9 fz fz2
  have c0 : w4.cell? ⟨W.heap.size, 0, none⟩ = some (.int .i64 n.kind) := by rw [cell_of_row w4 _ _ _ _ _ q1]; rfl
  have c1 : w4.cell? ⟨W.heap.size, 1, none⟩ = some (.int .i64 n.space) := by rw [cell_of_row w4 _ _ _ _ _ q1]; rfl
  have c2 : w4.cell? ⟨W.heap.size, 2, none⟩ = some (.string n.name) := by rw [cell_of_row w4 _ _ _ _ _ q1]; rfl
  have c3 : w4.cell? ⟨W.heap.size, 3, none⟩ = some (.string n.data) := by rw [cell_of_row w4 _ _ _ _ _ q1]; rfl
  have c4 : w4.cell? ⟨W.heap.size, 4, none⟩ = some (.slice A n.attrs.length c) := by rw [cell_of_row w4 _ _ _ _ _ q1]; rfl
  have c5 : w4.cell? ⟨W.heap.size, 5, none⟩ = some (.string n.pub) := by rw [cell_of_row w4 _ _ _ _ _ q1]; rfl
  have c6 : w4.cell? ⟨W.heap.size, 6, none⟩ = some (.string n.sys) := by rw [cell_of_row w4 _ _ _ _ _ q1]; rfl
  have c7 : w4.cell? ⟨W.heap.size, 7, none⟩ = some (.int .i64 (-1)) := by rw [cell_of_row w4 _ _ _ _ _ q1]; rfl
  have c8 : w4.cell? ⟨W.heap.size, 8, none⟩ = some (.slice none 0 0) := by rw [cell_of_row w4 _ _ _ _ _ q1]; rfl
  have c9 : w4.cell? ⟨W.heap.size, 9, none⟩ = some (.int .i64 (-1)) := by rw [cell_of_row w4 _ _ _ _ _ q1]; rfl
  have z0 : w4.cell? ⟨W.heap.size + 1, 0, none⟩ = some (.int .i64 0) := by rw [cell_of_row w4 _ _ _ _ _ q2]; rfl
  have z1 : w4.cell? ⟨W.heap.size + 1, 1, none⟩ = some (.int .i64 0) := by rw [cell_of_row w4 _ _ _ _ _ q2]; rfl
  have z2 : w4.cell? ⟨W.heap.size + 1, 2, none⟩ = some (.string { data := #[] }) := by rw [cell_of_row w4 _ _ _ _ _ q2]; rfl
  have z3 : w4.cell? ⟨W.heap.size + 1, 3, none⟩ = some (.string { data := #[] }) := by rw [cell_of_row w4 _ _ _ _ _ q2]; rfl
  have z4 : w4.cell? ⟨W.heap.size + 1, 4, none⟩ = some (.slice none 0 0) := by rw [cell_of_row w4 _ _ _ _ _ q2]; rfl
  have z5 : w4.cell? ⟨W.heap.size + 1, 5, none⟩ = some (.string { data := #[] }) := by rw [cell_of_row w4 _ _ _ _ _ q2]; rfl
  have z6 : w4.cell? ⟨W.heap.size + 1, 6, none⟩ = some (.string { data := #[] }) := by rw [cell_of_row w4 _ _ _ _ _ q2]; rfl
  have z7 : w4.cell? ⟨W.heap.size + 1, 7, none⟩ = some (.int .i64 0) := by rw [cell_of_row w4 _ _ _ _ _ q2]; rfl
  have z8 : w4.cell? ⟨W.heap.size + 1, 8, none⟩ = some (.slice none 0 0) := by rw [cell_of_row w4 _ _ _ _ _ q2]; rfl
  have z9 : w4.cell? ⟨W.heap.size + 1, 9, none⟩ = some (.int .i64 0) := by rw [cell_of_row w4 _ _ _ _ _ q2]; rfl
  have fz2 : ∀ j, w4.frozen? ⟨W.heap.size + 1, j, none⟩ = false := Lib.frozen_of_heap q2
  have Q1 := Lib.hid q1
  have Q2 := Lib.hid q2
  have Q3 := Lib.hid q3
  have B4 := Lib.hid b4
  clear q1 q2 q3 b4
  go_wp2
  clear c0 c1 c2 c3 c4 c5 c6 c7 c8 c9
  clear z0 z1 z2 z3 z4 z5 z6 z7 z8 z9
  obtain ⟨w5, hw5⟩ : ∃ w5, ((((((((((w4.setCell ⟨W.heap.size + 1, 0, none⟩ (.int .i64 n.kind)).setCell ⟨W.heap.size + 1, 1, none⟩ (.int .i64 n.space)).setCell ⟨W.heap.size + 1, 2, none⟩ (.string n.name)).setCell ⟨W.heap.size + 1, 3, none⟩ (.string n.data)).setCell ⟨W.heap.size + 1, 4, none⟩ (.slice A n.attrs.length c)).setCell ⟨W.heap.size + 1, 5, none⟩ (.string n.pub)).setCell ⟨W.heap.size + 1, 6, none⟩ (.string n.sys)).setCell ⟨W.heap.size + 1, 7, none⟩ (.int .i64 (-1))).setCell ⟨W.heap.size + 1, 8, none⟩ (.slice none 0 0)).setCell ⟨W.heap.size + 1, 9, none⟩ (.int .i64 (-1))) = w5 := ⟨_, rfl⟩
  rw [hw5]
  have r1 : w5.heap[W.heap.size + 1]? = some (.cells (aloneNd n A c).cs.toArray 53 (0, 0)) := by
    rw [← hw5]
    exact set10 w4 (W.heap.size + 1) 53 _ _ _ _ _ _ _ _ _ _ _ _ _ _ _ _ _ _ _ _ Q2.out
  have r3 : ∀ k, W.heap.size + 1 ≠ k → w5.heap[k]? = w4.heap[k]? := by
    intro k hk
    have hk' : k ≠ W.heap.size + 1 := fun e => hk e.symm
    rw [← hw5]
    exact set10_other w4 (W.heap.size + 1) _ _ _ _ _ _ _ _ _ _ hk'
  have b5 : Below W.heap.size w4 w5 := by
    rw [← hw5]
    exact set10_below w4 W.heap.size (W.heap.size + 1) (Nat.le_succ _) _ _ _ _ _ _ _ _ _ _
  clear hw5
  have y0 : w5.cell? ⟨W.heap.size + 1, 0, none⟩ = some (.int .i64 n.kind) := by rw [cell_of_row w5 _ _ _ _ _ r1]; rfl
  have y1 : w5.cell? ⟨W.heap.size + 1, 1, none⟩ = some (.int .i64 n.space) := by rw [cell_of_row w5 _ _ _ _ _ r1]; rfl
  have y2 : w5.cell? ⟨W.heap.size + 1, 2, none⟩ = some (.string n.name) := by rw [cell_of_row w5 _ _ _ _ _ r1]; rfl
  have y3 : w5.cell? ⟨W.heap.size + 1, 3, none⟩ = some (.string n.data) := by rw [cell_of_row w5 _ _ _ _ _ r1]; rfl
  have y4 : w5.cell? ⟨W.heap.size + 1, 4, none⟩ = some (.slice A n.attrs.length c) := by rw [cell_of_row w5 _ _ _ _ _ r1]; rfl
  have y5 : w5.cell? ⟨W.heap.size + 1, 5, none⟩ = some (.string n.pub) := by rw [cell_of_row w5 _ _ _ _ _ r1]; rfl
  have y6 : w5.cell? ⟨W.heap.size + 1, 6, none⟩ = some (.string n.sys) := by rw [cell_of_row w5 _ _ _ _ _ r1]; rfl
  have y7 : w5.cell? ⟨W.heap.size + 1, 7, none⟩ = some (.int .i64 (-1)) := by rw [cell_of_row w5 _ _ _ _ _ r1]; rfl
  have y8 : w5.cell? ⟨W.heap.size + 1, 8, none⟩ = some (.slice none 0 0) := by rw [cell_of_row w5 _ _ _ _ _ r1]; rfl
  have y9 : w5.cell? ⟨W.heap.size + 1, 9, none⟩ = some (.int .i64 (-1)) := by rw [cell_of_row w5 _ _ _ _ _ r1]; rfl
  refine bodyPost_ret (v := .agg (aloneNd n A c).cs.toArray) (by simp [results, Try.results58, go_sem, y0, y1, y2, y3, y4, y5, y6, y7, y8, y9]; rfl) rfl ?_
  refine ⟨A, c, rfl, own_move HO.out (fun k hk => (r3 k (by omega)).trans (Q3.out k (by omega))) (by omega), ((HB2.out.trans (HB3.out.mono (by omega))).trans B4.out).trans b5⟩
end Go.Proofs.Ytfkbjniodomdjaa
