/- The document's example of layer 2. -/
import Derived.Test.YtdoglpaggmdnpaaCm
namespace Go.Proofs.Ytdoglpaggmdnpaa
open Go.RowKit

def L1 : List Int := [110, 111, 116, 105, 110, 59]
def L2 : List Int := [110, 111, 116, 105, 116]
theorem best_L1 : (Cx.best L1 61).2 = (6, true) := by decide +kernel
theorem best_L2 : (Cx.best L2 61).2 = (3, false) := by decide +kernel
theorem found_L1 : Cx.found L1 = [8713] := by decide +kernel
theorem found_L2 : Cx.found L2 = [172] := by decide +kernel

theorem match_L1 (A : Option Addr) (cap : Nat) (w : World) (hr : Rd w .i32 A L1) :
    Calls Try.prog 25 #[.slice A 6 cap] w fun e w' => ∃ B, e = .returned (.tuple #[.slice B 1 1, .int .i64 6, .bool true]) ∧ Below w.heap.size w w' := by
  refine (match_any L1 A cap w hr (by decide)).mono ?_
  rintro e w' ⟨B, rfl, _, hb⟩
  exact ⟨B, by rw [best_L1, found_L1]; rfl, hb⟩
theorem match_L2 (A : Option Addr) (cap : Nat) (w : World) (hr : Rd w .i32 A L2) :
    Calls Try.prog 25 #[.slice A 5 cap] w fun e w' => ∃ b off, e = .returned (.tuple #[.slice (some ⟨b, off, none⟩) 1 1, .int .i64 3, .bool false]) ∧ b < w'.heap.size ∧ w'.cell? ⟨b, off, none⟩ = some (.int .i32 172) ∧ Below w.heap.size w w' := by
  refine (match_any L2 A cap w hr (by decide)).mono ?_
  rintro e w' ⟨B, rfl, hrd, hb⟩
  rw [found_L2] at hrd ⊢
  obtain ⟨b, off, rfl, hlt, hc⟩ := hrd.pos (by decide)
  exact ⟨b, off, by rw [best_L2]; rfl, hlt, hc 0 (by decide), hb⟩

set_option maxHeartbeats 400000 in
theorem head2_any (w : World) : Calls Try.prog 23 #[] w fun e w' => e = .returned (.bool true) ∧ Below w.heap.size w w' := by
  go_enter Try.func23, Try.ntmps23
  go_wp2_with fail
  refine (match_L1 _ _ _ ?_).mono ?_
  · refine .inr ⟨_, _, rfl, by simp, fun i hi => ?_⟩
    match i, hi with
    | 0, _ => simp [L1]
    | 1, _ => simp [L1]
    | 2, _ => simp [L1]
    | 3, _ => simp [L1]
    | 4, _ => simp [L1]
    | 5, _ => simp [L1]
  rintro e w1 ⟨B, rfl, hb1⟩
  go_wp2_with fail
  refine (match_L2 _ _ _ ?_).mono ?_
  · refine .inr ⟨_, _, rfl, by simp, fun i hi => ?_⟩
    match i, hi with
    | 0, _ => simp [L2]
    | 1, _ => simp [L2]
    | 2, _ => simp [L2]
    | 3, _ => simp [L2]
    | 4, _ => simp [L2]
  rintro e w2 ⟨b, off, rfl, hlt, hc, hb2⟩
  go_wp2
  go_ret
  refine ⟨rfl, ?_⟩
  have h1 : Below w.heap.size w w1 := ((Below.refl _ _).alloc (Nat.le_refl _) _).trans (hb1.mono (by simp))
  exact (h1.alloc h1.size _).trans (hb2.mono (by have := h1.size; simp; omega))

end Go.Proofs.Ytdoglpaggmdnpaa
