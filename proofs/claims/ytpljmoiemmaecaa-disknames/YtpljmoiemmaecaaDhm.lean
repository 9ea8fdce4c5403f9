/- The law DiskNames, walked. -/
import Derived.Test.YtpljmoiemmaecaaDh
namespace Go.Proofs.Ytpljmoiemmaecaa
open Go.RowKit

theorem wr_new10 (s : ByteArray) : (wrA (newA 10) s []).2 = if Dx.name s then 0 else 1 := by
  unfold wrA readyR
  by_cases h : Dx.name s = true
  · have h1 : ([s].all Dx.name) = true := by simpa using h
    have h2 : (newA 10).off = false := rfl
    simp only [h1, h2, h, if_true]
    rfl
  · have h1 : ([s].all Dx.name) = false := by simpa using h
    simp only [h1, h]
    rfl

set_option maxRecDepth 100000 in
set_option maxHeartbeats 600000 in
theorem diskNames_law (s : ByteArray) (hs : s.size ≤ maxLen) (w : World) : Calls Try.prog 4 #[.string s] w fun e w' => e = .returned (.bool true) ∧ Fr (fun _ => False) w w' := by
  go_enter Try.func4, Try.ntmps4
  go_wp2_with fail
  refine (head4_any w).mono ?_
  rintro e w1 ⟨rfl, hf1⟩
  by_cases hl : (200 : Int) < (s.size : Int)
  · have hd : decide ((200 : Int) < (s.size : Int)) = true := by simpa using hl
    go_wp2
    go_ret
    exact ⟨rfl, hf1⟩
  · have hd : decide ((200 : Int) < (s.size : Int)) = false := by simpa using hl
    go_wp2_with fail
    refine (New_on w1 10).mono ?_
    rintro e w2 ⟨rfl, h2⟩
    go_wp2_with fail
    refine (Write_on h2 s none 0 [] hs (.inl rfl) (fun _ => rfl) (by omega)).mono ?_
    rw [wr_new10]
    have HN := fun w => Lib.hid (Named_any s w hs)
    have HL := fun w => Lib.hid (lnamed_any s w hs)
    cases hn : Dx.name s
    all_goals
      rw [hn] at HN HL
      rintro e w3 ⟨rfl, h3⟩
      have hfr := hf1.trans h3.fr
      clear h3
      go_wp2_with (first
        | (go_at_call 28; refine (HN _).out.mono ?_; rintro e w' ⟨rfl, rfl⟩)
        | (go_at_call 12; refine (HL _).out.mono ?_; rintro e w' ⟨rfl, rfl⟩))
      go_ret
      exact ⟨rfl, hfr⟩
end Go.Proofs.Ytpljmoiemmaecaa
