/- The law TokenTwice, walked. -/
import Derived.Test.YtanbbomdidefjaaKe
import Derived.Test.YtanbbomdidefjaaKi
namespace Go.Proofs.Ytanbbomdidefjaa
open Go.RowKit Go.Lib

theorem GivesA.out {xs : List Atr} {w : World} {e : Ending} {w' : World} (h : GivesA xs w e w') : ∃ A cap, e = .returned (.slice A xs.length cap) ∧ RdA w' A xs ∧ (A = none → xs = []) ∧ Below w.heap.size w w' := by
  obtain ⟨v, rfl, ho, hb⟩ := h
  obtain ⟨A, cap, rfl, _, _, hn, hr⟩ := RdA.own ho
  refine ⟨A, cap, rfl, hr, fun e => ?_, hb⟩
  subst e
  rcases hr with h | ⟨b, off, h, _⟩
  · exact h
  · cases h
theorem Sz.once {xs : List Atr} (h : Sz xs) : Sz (once xs) := fun x hx => h x (once_mem hx)
theorem wout_len (xs : List Atr) (s : ByteArray) : (wout xs s).length ≤ xs.length := List.length_filter_le _ _

end Go.Proofs.Ytanbbomdidefjaa
