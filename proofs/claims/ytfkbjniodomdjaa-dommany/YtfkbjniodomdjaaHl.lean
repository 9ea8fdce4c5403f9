/- The calls of no tree at all. -/
import Derived.Test.YtfkbjniodomdjaaEd
namespace Go.Proofs.Ytfkbjniodomdjaa
open Go.RowKit Go.Shelf Go.Lib
attribute [local go_sem] Oper.semAt_some

theorem nil_size (W : World) : Calls Try.prog 46 #[.pointer none] W fun e W' => e = .returned (.int .i64 0) ∧ W' = W := by
  go_enter Try.func46, Try.ntmps46
  go_wp2
  go_ret
  exact ⟨rfl, rfl⟩
theorem nil_has (n : Int) (W : World) : Calls Try.prog 42 #[.pointer none, .int .i64 n] W fun e W' => e = .returned (.bool false) ∧ W' = W := by
  have KS := Lib.hid (nil_size W)
  by_cases h0 : 0 ≤ n
  · have d0 : decide (n < 0) = false := decide_eq_false (by omega)
    have d1 : decide (0 ≤ n) = true := decide_eq_true h0
    go_enter Try.func42, Try.ntmps42
    go_wp2_with fail
    refine KS.out.mono ?_
    rintro e w1 ⟨rfl, rfl⟩
    go_wp2
    go_ret
    exact ⟨rfl, rfl⟩
  · have d1 : decide (0 ≤ n) = false := decide_eq_false h0
    go_enter Try.func42, Try.ntmps42
    go_wp2
    go_ret
    exact ⟨rfl, rfl⟩
theorem nil_Kind (n : Int) (W : World) : Calls Try.prog 13 #[.pointer none, .int .i64 n] W fun e W' => e = .returned (.int .i64 0) ∧ W' = W := by
  have KH := Lib.hid (nil_has n W)
  go_enter Try.func13, Try.ntmps13
  go_wp2_with fail
  refine KH.out.mono ?_
  rintro e w1 ⟨rfl, rfl⟩
  go_wp2
  go_ret
  exact ⟨rfl, rfl⟩
theorem nil_Up (n : Int) (W : World) : Calls Try.prog 14 #[.pointer none, .int .i64 n] W fun e W' => e = .returned (.int .i64 (-1)) ∧ W' = W := by
  have KH := Lib.hid (nil_has n W)
  go_enter Try.func14, Try.ntmps14
  go_wp2_with fail
  refine KH.out.mono ?_
  rintro e w1 ⟨rfl, rfl⟩
  go_wp2
  go_ret
  exact ⟨rfl, rfl⟩
theorem nil_kids (n : Int) (W : World) : Calls Try.prog 44 #[.pointer none, .int .i64 n] W fun e W' => e = .returned (.slice none 0 0) ∧ W' = W := by
  have KH := Lib.hid (nil_has n W)
  go_enter Try.func44, Try.ntmps44
  go_wp2_with fail
  refine KH.out.mono ?_
  rintro e w1 ⟨rfl, rfl⟩
  go_wp2
  go_ret
  exact ⟨rfl, rfl⟩
theorem nil_inner (n : Int) (W : World) : Calls Try.prog 54 #[.pointer none, .int .i64 n] W fun e W' => e = .returned (.int .i64 (-1)) ∧ W' = W := by
  have KH := Lib.hid (nil_has n W)
  go_enter Try.func54, Try.ntmps54
  go_wp2_with fail
  refine KH.out.mono ?_
  rintro e w1 ⟨rfl, rfl⟩
  go_wp2
  go_ret
  exact ⟨rfl, rfl⟩
theorem nil_shown (n : Int) (W : World) : Calls Try.prog 48 #[.pointer none, .int .i64 n] W fun e W' => e = .returned (.slice none 0 0) ∧ W' = W := by
  have KI := Lib.hid (nil_inner n W)
  have KK := Lib.hid (nil_kids n W)
  go_enter Try.func48, Try.ntmps48
  go_wp2_with fail
  refine KI.out.mono ?_
  rintro e w1 ⟨rfl, rfl⟩
  go_wp2_with fail
  refine KK.out.mono ?_
  rintro e w1 ⟨rfl, rfl⟩
  go_wp2
  go_ret
  exact ⟨rfl, rfl⟩
theorem nil_holds (n : Int) (W : World) : Calls Try.prog 61 #[.pointer none, .int .i64 n] W fun e W' => e = .returned (.bool false) ∧ W' = W := by
  have KH := Lib.hid (nil_Kind n W)
  go_enter Try.func61, Try.ntmps61
  go_wp2_with fail
  refine KH.out.mono ?_
  rintro e w1 ⟨rfl, rfl⟩
  go_wp2
  go_ret
  exact ⟨rfl, rfl⟩
theorem nil_Add (n : Nd) (W : World) : Calls Try.prog 24 #[.pointer none, .agg n.cs.toArray] W fun e W' => e = .returned (.int .i64 (-1)) ∧ Below W.heap.size W W' := by
  have hb1 := Lib.hid ((Below.refl _ W).alloc (Nat.le_refl _) (.cells n.cs.toArray 53))
  unfold Nd.cs at hb1 ⊢
  go_enter Try.func24, Try.ntmps24
  go_wp2
  go_ret
  exact ⟨rfl, hb1.out⟩
theorem nil_Put (up n before : Int) (W : World) : Calls Try.prog 26 #[.pointer none, .int .i64 up, .int .i64 n, .int .i64 before] W fun e W' => e = .returned (.int .i64 1) ∧ W' = W := by
  have KH := Lib.hid (nil_holds up W)
  go_enter Try.func26, Try.ntmps26
  go_wp2_with fail
  refine KH.out.mono ?_
  rintro e w1 ⟨rfl, rfl⟩
  go_wp2
  go_ret
  exact ⟨rfl, rfl⟩
theorem nil_Say (up before : Int) (s : ByteArray) (W : World) : Calls Try.prog 25 #[.pointer none, .int .i64 up, .string s, .int .i64 before] W fun e W' => e = .returned (.int .i64 1) ∧ W' = W := by
  have KH := Lib.hid (nil_has up W)
  go_enter Try.func25, Try.ntmps25
  go_wp2_with fail
  refine KH.out.mono ?_
  rintro e w1 ⟨rfl, rfl⟩
  go_wp2
  go_ret
  exact ⟨rfl, rfl⟩
theorem nil_Move (a b : Int) (W : World) : Calls Try.prog 27 #[.pointer none, .int .i64 a, .int .i64 b] W fun e W' => e = .returned (.int .i64 1) ∧ W' = W := by
  have KH := Lib.hid (nil_has a W)
  go_enter Try.func27, Try.ntmps27
  go_wp2_with fail
  refine KH.out.mono ?_
  rintro e w1 ⟨rfl, rfl⟩
  go_wp2
  go_ret
  exact ⟨rfl, rfl⟩
theorem nil_Take (d : Value) (n : Int) (W : World) : Calls Try.prog 22 #[d, .pointer none, .int .i64 n] W fun e W' => e = .returned (.int .i64 (-1)) ∧ W' = W := by
  have KH := Lib.hid (nil_has n W)
  go_enter Try.func22, Try.ntmps22
  go_wp2_with fail
  refine KH.out.mono ?_
  rintro e w1 ⟨rfl, rfl⟩
  go_wp2
  go_ret
  exact ⟨rfl, rfl⟩
theorem nil_Out (n : Int) (W : World) : Calls Try.prog 28 #[.pointer none, .int .i64 n] W fun e W' => e = .returned (.tuple #[]) ∧ W' = W := by
  have KH := Lib.hid (nil_has n W)
  go_enter Try.func28, Try.ntmps28
  go_wp2_with fail
  refine KH.out.mono ?_
  rintro e w1 ⟨rfl, rfl⟩
  go_wp2
  refine bodyPost_ret (results_none rfl _ _ _) rfl ?_
  exact ⟨rfl, rfl⟩
end Go.Proofs.Ytfkbjniodomdjaa
