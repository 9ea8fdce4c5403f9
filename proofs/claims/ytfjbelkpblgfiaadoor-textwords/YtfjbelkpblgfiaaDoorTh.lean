/- The document's example of layer 1. -/
import Derived.Test.YtfjbelkpblgfiaaDoorTd
namespace Go.Proofs.YtfjbelkpblgfiaaDoor
open Go.RowKit

def E1 : List Int := [226, 130, 65]
theorem decode_E1 : Tx.decode E1 = [65533, 65] := by decide +kernel

theorem decode_ex (A : Option Addr) (cap : Nat) (w : World) (hr : Rd w .u8 A E1) (hA : A = none → cap = 0) :
    Calls Tryd.prog 9 #[.slice A 3 cap] w fun e w' => ∃ b off cap', e = .returned (.slice (some ⟨b, off, none⟩) 2 cap') ∧ w'.cell? ⟨b, off, none⟩ = some (.int .i32 65533) ∧ w'.cell? ⟨b, off + 1, none⟩ = some (.int .i32 65) ∧ Below w.heap.size w w' := by
  refine (decode_any E1 A cap w hr hA (by decide) (fun i => ?_)).mono ?_
  · match i with
    | 0 => simp [E1]
    | 1 => simp [E1]
    | 2 => simp [E1]
    | i + 3 => simp [E1]
  rintro e w' ⟨B, cap', rfl, hrd, _, _, hb⟩
  rw [decode_E1] at hrd ⊢
  obtain ⟨b, off, rfl, hlt, hc⟩ := hrd.pos (by decide)
  exact ⟨b, off, cap', rfl, hc 0 (by decide), hc 1 (by decide), hb⟩

set_option maxHeartbeats 400000 in
theorem head1_any (w : World) : Calls Tryd.prog 4 #[] w fun e w' => e = .returned (.bool true) ∧ Below w.heap.size w w' := by
  go_enter Tryd.func4, Tryd.ntmps4
  go_wp2_with fail
  refine (decode_ex _ _ _ ?_ (fun h => by cases h)).mono ?_
  · refine .inr ⟨_, _, rfl, by simp, fun i hi => ?_⟩
    match i, hi with
    | 0, _ => simp [E1]
    | 1, _ => simp [E1]
    | 2, _ => simp [E1]
  rintro e w2 ⟨b, off, cap', rfl, hc0, hc1, hb2⟩
  go_wp2
  go_ret
  exact ⟨rfl, ((Below.refl _ _).alloc (Nat.le_refl _) _).trans (hb2.mono (by simp))⟩

end Go.Proofs.YtfjbelkpblgfiaaDoor
