/- The contract of text.Letter. -/
import Derived.Test.YtdoglpaggmdnpaaTk
namespace Go.Proofs.Ytdoglpaggmdnpaa
open Go.RowKit

set_option maxHeartbeats 400000 in
theorem letter_any (r : Int) (w : World) (h0 : -2147483648 ≤ r) (h1 : r ≤ 2147483647) :
    Calls Try.prog 19 #[.int .i32 r] w fun e w' => e = .returned (.bool (Tx.letter r)) ∧ w = w' := by
  go_enter Try.func19, Try.ntmps19
  go_wp2_with (go_at_call 22; refine (small_any _ _ h0 h1).mono ?_; rintro e w' ⟨rfl, rfl⟩)
  all_goals
    go_ret
    exact ⟨ret_bool (by unfold Tx.small Tx.letter at *; rw [Bool.eq_iff_iff]; simp only [decide_eq_true_eq]; split at * <;> first | omega | (simp; omega)), rfl⟩

end Go.Proofs.Ytdoglpaggmdnpaa
