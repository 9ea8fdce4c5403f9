/- The walk of no tree. -/
import Derived.Test.YtfkbjniodomdjaaHl
import Derived.Laws.EntriesVeiled
namespace Go.Proofs.Ytfkbjniodomdjaa
open Go.RowKit Go.Shelf Go.Lib
attribute [local go_sem] Oper.semAt_some

theorem nil_walk (n : Int) (W : World) : Calls Try.prog 17 #[.pointer none, .int .i64 n] W fun e W' => e = .returned (.func (.func 45) #[] #[.pointer (some ⟨W.heap.size, 0, none⟩), .pointer (some ⟨W.heap.size + 1, 0, none⟩)]) ∧ W' = (W.alloc (.cells #[.pointer none] 24)).alloc (.cells #[.int .i64 n] 3) := by
  go_enter Try.func17, Try.ntmps17
  go_wp2
  go_ret
  exact ⟨rfl, rfl⟩
theorem nil_visit (n : Int) (Bd E0 E1 E2 : Nat) (W : World) (hb : W.cell? ⟨Bd, 0, none⟩ = some (.pointer none)) :
    Calls Try.prog 47 #[.int .i64 n, .int .i64 1, .pointer (some ⟨Bd, 0, none⟩), .pointer (some ⟨E1, 0, none⟩), .pointer (some ⟨E0, 0, none⟩), .pointer (some ⟨E2, 0, none⟩)] W fun e W' => e = .returned (.bool true) ∧ W' = W := by
  have KS := Lib.hid (nil_shown n W)
  go_enter Try.func47, Try.ntmps47
  go_wp2_with fail
  refine KS.out.mono ?_
  rintro e w1 ⟨rfl, rfl⟩
  go_wp2
  refine wp_loop_rounds 1 ?_
  rw [rounds_succ]
  go_wp2
  go_ret
  exact ⟨rfl, rfl⟩
theorem nil_iter (l : Nat) (n : Int) (Bd Bn : Nat) (W : World) (hb : W.cell? ⟨Bd, 0, none⟩ = some (.pointer none)) (hn : W.cell? ⟨Bn, 0, none⟩ = some (.int .i64 n)) (hbd : Bd < W.heap.size) (hbn : Bn < W.heap.size) :
    Calls Try.prog 45 #[.func (.yield l) #[] #[], .pointer (some ⟨Bd, 0, none⟩), .pointer (some ⟨Bn, 0, none⟩)] W fun e W' => e = .returned (.tuple #[]) ∧ Below W.heap.size W W' := by
  obtain ⟨E, hE⟩ : ∃ E, W.heap.size = E := ⟨_, rfl⟩
  have hba : Below W.heap.size W (W.alloc (.cells #[.func (.yield l) #[] #[]] 86)) := (Below.refl _ W).alloc (Nat.le_refl _) _
  have KZ := Lib.hid (nil_size (W.alloc (.cells #[.func (.yield l) #[] #[]] 86)))
  have cda : (W.alloc (.cells #[.func (.yield l) #[] #[]] 86)).cell? ⟨Bd, 0, none⟩ = some (.pointer none) := (hba.cell hbd).trans hb
  obtain ⟨WB, hWB⟩ : ∃ WB, ((W.alloc (.cells #[.func (.yield l) #[] #[]] 86)).alloc (.cells #[.int .i64 0] 3)).alloc (.cells #[.nilFunc] 86) = WB := ⟨_, rfl⟩
  have hbB : Below W.heap.size W WB := by rw [← hWB]; exact (hba.alloc hba.size _).alloc (by simp; omega) _
  have b2 : WB.heap[W.heap.size + 1 + 1]? = some (.cells #[.nilFunc] 86 (0, 0)) := by
    rw [← hWB]
    have := heap_alloc_new ((W.alloc (.cells #[.func (.yield l) #[] #[]] 86)).alloc (.cells #[.int .i64 0] 3)) (.cells #[.nilFunc] 86)
    simpa using this
  have cF : WB.cell? ⟨W.heap.size + 1 + 1, 0, none⟩ = some .nilFunc := by rw [cell_of_row _ _ _ _ _ _ b2]; rfl
  have fF : WB.frozen? ⟨W.heap.size + 1 + 1, 0, none⟩ = false := by simp [World.frozen?, b2]
  obtain ⟨W4, hW4⟩ : ∃ W4, WB.setCell ⟨W.heap.size + 1 + 1, 0, none⟩ (.func (.func 47) #[] #[.pointer (some ⟨Bd, 0, none⟩), .pointer (some ⟨W.heap.size + 1, 0, none⟩), .pointer (some ⟨W.heap.size, 0, none⟩), .pointer (some ⟨W.heap.size + 1 + 1, 0, none⟩)]) = W4 := ⟨_, rfl⟩
  have hb4 : Below W.heap.size W W4 := by
    rw [← hW4]
    exact hbB.setCell (p := ⟨W.heap.size + 1 + 1, 0, none⟩) (by show W.heap.size ≤ W.heap.size + 1 + 1; omega) _
  have cd4 := (hb4.cell (p := ⟨Bd, 0, none⟩) hbd).trans hb
  have cn4 := (hb4.cell (p := ⟨Bn, 0, none⟩) hbn).trans hn
  have cv4 : W4.cell? ⟨W.heap.size + 1 + 1, 0, none⟩ = some (.func (.func 47) #[] #[.pointer (some ⟨Bd, 0, none⟩), .pointer (some ⟨W.heap.size + 1, 0, none⟩), .pointer (some ⟨W.heap.size, 0, none⟩), .pointer (some ⟨W.heap.size + 1 + 1, 0, none⟩)]) := by
    rw [← hW4]
    exact World.cell?_setCell_same' _ _ _ (by rw [cF]; rfl)
  have KV := Lib.hid (nil_visit n Bd W.heap.size (W.heap.size + 1) (W.heap.size + 1 + 1) W4 cd4)
  have HB4 := Lib.hid hb4
  clear hb hn hbd hbn hba hbB b2 hb4 cd4 hE
  go_enter Try.func45, Try.ntmps45
  go_wp2_with fail
  refine KZ.out.mono ?_
  rintro e w2 ⟨rfl, rfl⟩
  go_wp2_with fail
  refine KV.out.mono ?_
  rintro e w3 ⟨rfl, rfl⟩
  go_wp2
  go_end0
  exact ⟨rfl, HB4.out⟩
end Go.Proofs.Ytfkbjniodomdjaa
