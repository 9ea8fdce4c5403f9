/- The law FrameAlls where there are more than ten. -/
import Derived.Test.YtanbbomdidefjaaRg
namespace Go.Proofs.Ytanbbomdidefjaa
open Go.RowKit Go.Shelf
attribute [local go_sem] Oper.semAt_some

set_option maxRecDepth 100000 in
set_option maxHeartbeats 1000000 in
theorem frameAlls_long (rs : List El) (A : Option Addr) (cap : Nat) (cut0 stop0 : Int) (w : World) (hl : 10 < rs.length) :
    Calls Try.prog 3 #[.slice A rs.length cap, .int .i64 cut0, .int .i64 stop0] w fun e w' => e = .returned (.bool true) ∧ Below w.heap.size w w' := by
  refine (callsIn_wide (n := 9)).1 ?_
  refine callsIn_of_wp_marks Try.func3 rfl trivial ?_ rfl
  simp only [Try.ntmps3, List.size_toArray, List.length_cons, List.length_nil, Nat.reduceAdd, Nat.reduceSub, Array.replicate_succ, Array.replicate_zero, List.push_toArray, List.append_toArray, List.nil_append, List.cons_append]
  have hd0 : decide ((10 : Int) < (rs.length : Int)) = true := decide_eq_true (by omega)
  obtain ⟨W0, hW0⟩ : ∃ W0, (((w.alloc (.cells #[.slice A rs.length cap] 22)).alloc (.cells #[.int .i64 cut0] 3)).alloc (.cells #[.int .i64 stop0] 3)).alloc (.cells #[.bool false] 4) = W0 := ⟨_, rfl⟩
  have hs0 : W0.heap.size = w.heap.size + 4 := by rw [← hW0]; simp
  have hB0 : Below w.heap.size w W0 := by rw [← hW0]; exact ((((Below.refl _ w).alloc (Nat.le_refl _) _).alloc (by simp) _).alloc (by simp; omega) _).alloc (by simp; omega) _
  have b0 : W0.heap[w.heap.size]? = some (.cells #[.slice A rs.length cap] 22 (0, 0)) := by
    rw [← hW0, Below.heap_alloc _ _ _ (by simp; omega), Below.heap_alloc _ _ _ (by simp; omega), Below.heap_alloc _ _ _ (by simp)]
    exact heap_alloc_new w _
  have b3 : W0.heap[w.heap.size + 3]? = some (.cells #[.bool false] 4 (0, 0)) := by
    rw [← hW0]
    have := heap_alloc_new (((w.alloc (.cells #[.slice A rs.length cap] 22)).alloc (.cells #[.int .i64 cut0] 3)).alloc (.cells #[.int .i64 stop0] 3)) (.cells #[.bool false] 4)
    simpa using this
  have KH := Lib.hid (head5_any W0)
  refine wpIn_wide.2 ?_
  go_wp2_with fail
  refine KH.out.mono ?_
  rintro e w1 ⟨rfl, hb1⟩
  have hB1 : Below w.heap.size w w1 := hB0.trans (hb1.mono (by omega))
  have d0 := (hb1.block _ (by omega)).trans b0
  have d3 := (hb1.block _ (by omega)).trans b3
  have l0 : w1.cell? ⟨w.heap.size, 0, none⟩ = some (.slice A rs.length cap) := by rw [cell_of_row _ _ _ _ _ _ d0]; rfl
  have l3 : w1.cell? ⟨w.heap.size + 1 + 1 + 1, 0, none⟩ = some (.bool false) := by rw [cell_of_row _ _ _ _ _ _ d3]; rfl
  have f3 : w1.frozen? ⟨w.heap.size + 1 + 1 + 1, 0, none⟩ = false := by simp [World.frozen?, d3]
  have HB1 := Lib.hid hB1
  have HD3 := Lib.hid d3
  clear b0 b3 hW0 hs0 hB0 hB1 hb1 KH d0 d3 hl
  go_wp2
  have hres2 : (w1.setCell ⟨w.heap.size + 1 + 1 + 1, 0, none⟩ (.bool true)).heap[w.heap.size + 3]? = some (.cells #[.bool true] 4 (0, 0)) := by
    simp [World.setCell, Array.getElem?_modify, HD3.out]
  have hcq : (w1.setCell ⟨w.heap.size + 1 + 1 + 1, 0, none⟩ (.bool true)).cell? ⟨w.heap.size + 1 + 1 + 1, 0, none⟩ = some (.bool true) := by rw [cell_of_row _ _ _ _ _ _ hres2]; rfl
  refine ⟨.bool true, ?_, rfl, HB1.out.setCell (p := ⟨w.heap.size + 1 + 1 + 1, 0, none⟩) (by simp; omega) _⟩
  simp [results, Try.f3, go_sem, hcq]
end Go.Proofs.Ytanbbomdidefjaa
