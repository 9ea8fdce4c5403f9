/- Contracts of package text's small functions: each returns what its plain function says and leaves the world alone. -/
import Derived.Test.YtdoglpaggmdnpaaRows
import Derived.Test.YtdoglpaggmdnpaaTx
import Derived.WalkKit
import Derived.WalkSpells
import Derived.Lib.Hide
namespace Go.Proofs.Ytdoglpaggmdnpaa
open Go.RowKit

theorem ret_int {k : IntKind} {a b : Int} (h : a = b) : Ending.returned (.int k a) = .returned (.int k b) := by rw [h]
theorem ret_bool {a b : Bool} (h : a = b) : Ending.returned (.bool a) = .returned (.bool b) := by rw [h]

set_option maxHeartbeats 400000 in
theorem small_any (r : Int) (w : World) (h0 : -2147483648 ≤ r) (h1 : r ≤ 2147483647) :
    Calls Try.prog 22 #[.int .i32 r] w fun e w' => e = .returned (.int .i32 (Tx.small r)) ∧ w = w' := by
  by_cases h : 65 ≤ r
  · by_cases h2 : r ≤ 90
    all_goals
      go_enter Try.func22, Try.ntmps22
      go_wp2
      go_ret
      exact ⟨ret_int (by unfold Tx.small; split <;> omega), rfl⟩
  · go_enter Try.func22, Try.ntmps22
    go_wp2
    go_ret
    exact ⟨ret_int (by unfold Tx.small; split <;> omega), rfl⟩

set_option maxHeartbeats 400000 in
theorem digit_any (r : Int) (w : World) :
    Calls Try.prog 20 #[.int .i32 r] w fun e w' => e = .returned (.bool (Tx.digit r)) ∧ w = w' := by
  by_cases h : 48 ≤ r
  · by_cases h2 : r ≤ 57
    all_goals
      go_enter Try.func20, Try.ntmps20
      go_wp2
      go_ret
      exact ⟨ret_bool (by simp [Tx.digit]; omega), rfl⟩
  · go_enter Try.func20, Try.ntmps20
    go_wp2
    go_ret
    exact ⟨ret_bool (by simp [Tx.digit]; omega), rfl⟩

set_option maxHeartbeats 400000 in
theorem blank_any (r : Int) (w : World) :
    Calls Try.prog 18 #[.int .i32 r] w fun e w' => e = .returned (.bool (Tx.blank r)) ∧ w = w' := by
  go_enter Try.func18, Try.ntmps18
  go_wp2
  all_goals
    go_ret
    exact ⟨ret_bool (by simp_all [Tx.blank]), rfl⟩

set_option maxHeartbeats 400000 in
theorem hex_any (r : Int) (w : World) (h0 : -2147483648 ≤ r) (h1 : r ≤ 2147483647) :
    Calls Try.prog 21 #[.int .i32 r] w fun e w' => e = .returned (.int .i64 (Tx.hex r)) ∧ w = w' := by
  cases hd : Tx.digit r with
  | true =>
    have hd1 : 48 ≤ r ∧ r ≤ 57 := by simpa [Tx.digit] using hd
    obtain ⟨hd2, hd3⟩ := hd1
    go_enter Try.func21, Try.ntmps21
    go_wp2_with (first | (go_at_call 22; refine (small_any _ _ h0 h1).mono ?_; rintro e w' ⟨rfl, rfl⟩) | (go_at_call 20; refine (digit_any _ _).mono ?_; rintro e w' ⟨rfl, rfl⟩))
    go_ret
    exact ⟨ret_int (by unfold Tx.hex; rw [if_pos ⟨hd2, hd3⟩]), rfl⟩
  | false =>
    have hd1 : ¬ (48 ≤ r ∧ r ≤ 57) := by simpa [Tx.digit] using hd
    have hs : Tx.small r = if 65 ≤ r ∧ r ≤ 90 then r + 32 else r := rfl
    have HS := Lib.hid hs
    clear hs
    go_enter Try.func21, Try.ntmps21
    go_wp2_with (first | (go_at_call 22; refine (small_any _ _ h0 h1).mono ?_; rintro e w' ⟨rfl, rfl⟩) | (go_at_call 20; refine (digit_any _ _).mono ?_; rintro e w' ⟨rfl, rfl⟩))
    all_goals
      go_ret
      exact ⟨ret_int (by have := HS.out; unfold Tx.hex; rw [if_neg hd1]; (repeat' split) <;> split at this <;> omega), rfl⟩

end Go.Proofs.Ytdoglpaggmdnpaa
