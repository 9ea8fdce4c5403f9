/- Contracts of disk.Named and of the law's own. -/
import Derived.Test.YtpljmoiemmaecaaGm
namespace Go.Proofs.Ytpljmoiemmaecaa
open Go.RowKit
namespace Dx
def nb (c : Int) : Bool := (decide (97 ≤ c) && decide (c ≤ 122)) || (decide (48 ≤ c) && decide (c ≤ 57)) || c == 46 || c == 45
def name (s : ByteArray) : Bool := decide (1 ≤ s.size ∧ s.size ≤ 80) && (bs s).all nb
theorem name_long {s : ByteArray} (h : ¬ (1 ≤ s.size ∧ s.size ≤ 80)) : name s = false := by unfold name; simp [h]
theorem name_all {s : ByteArray} (h : 1 ≤ s.size ∧ s.size ≤ 80) (ha : ∀ j, j < s.size → nb ((bs s)[j]?.getD 0) = true) : name s = true := by
  unfold name
  rw [decide_eq_true h, Bool.true_and, List.all_eq_true]
  intro x hx
  obtain ⟨i, hi⟩ := List.getElem?_of_mem hx
  have hil : i < s.size := by have := (List.getElem?_eq_some_iff.1 hi).1; rwa [bs_len] at this
  have := ha i hil
  rw [hi] at this
  exact this
theorem name_bad {s : ByteArray} {j : Nat} (hj : j < s.size) (h : nb ((bs s)[j]?.getD 0) = false) : name s = false := by
  unfold name
  rw [Bool.and_eq_false_iff]
  right
  rw [List.all_eq_false]
  refine ⟨(bs s)[j]?.getD 0, ?_, by simp [h]⟩
  rw [bs_get s j hj]
  exact List.mem_of_getElem? (bs_get s j hj)
end Dx

theorem nameByte_any (c : Int) (w : World) : Calls Try.prog 40 #[.int .u8 c] w fun e w' => e = .returned (.bool (Dx.nb c)) ∧ w = w' := by
  go_enter Try.func40, Try.ntmps40
  go_wp2
  all_goals
    go_ret
    refine ⟨?_, rfl⟩
    first
      | (simp [Dx.nb, *]; done)
      | (simp [Dx.nb, *]; rw [Bool.eq_iff_iff]; simp; omega)

theorem empty_of {s : ByteArray} (h : s.size = 0) : s.toList.isEmpty = true := by
  rw [ByteArray.toList_eq, List.isEmpty_iff, ← List.length_eq_zero_iff, Array.length_toList]
  exact h
theorem nonempty_of {s : ByteArray} (h : s.size ≠ 0) : s.toList.isEmpty = false := by
  rw [← Bool.not_eq_true, ByteArray.toList_eq, List.isEmpty_iff, ← List.length_eq_zero_iff, Array.length_toList]
  exact h

set_option maxHeartbeats 400000 in
theorem Named_any (s : ByteArray) (w : World) (hs : s.size ≤ maxLen) : Calls Try.prog 28 #[.string s] w fun e w' => e = .returned (.bool (Dx.name s)) ∧ w = w' := by
  unfold maxLen at hs
  by_cases h0 : s.size = 0
  · have e1 := empty_of h0
    rw [Dx.name_long (by omega)]
    go_enter Try.func28, Try.ntmps28
    go_wp2
    go_ret
    exact ⟨rfl, rfl⟩
  · have e1 := nonempty_of h0
    by_cases h80 : 80 < s.size
    · rw [Dx.name_long (by omega)]
      go_enter Try.func28, Try.ntmps28
      go_wp2
      go_ret
      exact ⟨rfl, rfl⟩
    · have td : decide ((80 : Int) < (s.size : Int)) = false := by simp; omega
      go_enter Try.func28, Try.ntmps28
      go_wp2
      go_loop [13] (fun i => ∃ k : Nat, k ≤ s.size ∧ i = .int .i64 k ∧ ∀ j, j < k → Dx.nb ((bs s)[j]?.getD 0) = true) (fun i => s.size - (intOf i).toNat)
      case atStart => exact ⟨0, by omega, rfl, fun j hj => absurd hj (by omega)⟩
      case round =>
        obtain ⟨k, hk, rfl, hall⟩ := hrel
        have HA := Lib.hid hall
        clear hall
        by_cases hlt : k < s.size
        · have hg : (bs s)[k]?.getD 0 = ((s[k]'hlt).toNat : Int) := by rw [bs_get s k hlt]; rfl
          have HG := Lib.hid hg
          clear hg
          cases hb : Dx.nb ((s[k]'hlt).toNat : Int) with
          | true =>
            go_wp2_with (go_at_call 40; refine (nameByte_any _ _).mono ?_; rintro e w' ⟨rfl, rfl⟩)
            go_round
            case rel =>
              refine ⟨k + 1, by omega, by go_num, fun j hj => ?_⟩
              rcases Nat.lt_or_ge j k with h1 | h1
              · exact HA.out j h1
              · obtain rfl : j = k := by omega
                rw [HG.out]; exact hb
            case measure => simp [intOf]; omega
          | false =>
            go_wp2_with (go_at_call 40; refine (nameByte_any _ _).mono ?_; rintro e w' ⟨rfl, rfl⟩)
            go_ret
            refine ⟨?_, rfl⟩
            rw [Dx.name_bad hlt (by rw [HG.out]; exact hb)]
            rfl
        · obtain rfl : k = s.size := by omega
          go_wp2
          go_ret
          refine ⟨?_, rfl⟩
          rw [Dx.name_all (by omega) HA.out]
          rfl

set_option maxHeartbeats 400000 in
theorem lnamed_any (s : ByteArray) (w : World) (hs : s.size ≤ maxLen) : Calls Try.prog 12 #[.string s] w fun e w' => e = .returned (.bool (Dx.name s)) ∧ w = w' := by
  unfold maxLen at hs
  by_cases h0 : s.size < 1
  · rw [Dx.name_long (by omega)]
    go_enter Try.func12, Try.ntmps12
    go_wp2
    go_ret
    exact ⟨rfl, rfl⟩
  · by_cases h80 : 80 < s.size
    · rw [Dx.name_long (by omega)]
      go_enter Try.func12, Try.ntmps12
      go_wp2
      go_ret
      exact ⟨rfl, rfl⟩
    · have td : decide ((80 : Int) < (s.size : Int)) = false := by simp; omega
      have td2 : decide ((s.size : Int) < 1) = false := by simp; omega
      go_enter Try.func12, Try.ntmps12
      go_wp2
      go_loop [3] (fun i => ∃ k : Nat, k ≤ s.size ∧ i = .int .i64 k ∧ ∀ j, j < k → Dx.nb ((bs s)[j]?.getD 0) = true) (fun i => s.size - (intOf i).toNat)
      case atStart => exact ⟨0, by omega, rfl, fun j hj => absurd hj (by omega)⟩
      case round =>
        obtain ⟨k, hk, rfl, hall⟩ := hrel
        have HA := Lib.hid hall
        clear hall
        by_cases hlt : k < s.size
        · have hg : (bs s)[k]?.getD 0 = ((s[k]'hlt).toNat : Int) := by rw [bs_get s k hlt]; rfl
          have HG := Lib.hid hg
          clear hg
          go_wp2
          all_goals
            first
            | (go_ret
               refine ⟨?_, rfl⟩
               rw [Dx.name_bad hlt (by rw [HG.out, ← Bool.not_eq_true]; clear HA HG hs td td2; simp only [Dx.nb, Bool.or_eq_true, Bool.and_eq_true, decide_eq_true_eq, beq_iff_eq]; first | omega | (simp at *; omega))]
               rfl)
            | (refine ⟨⟨k + 1, by omega, by go_num, fun j hj => ?_⟩, by simp [intOf]; omega⟩
               rcases Nat.lt_or_ge j k with h1 | h1
               · exact HA.out j h1
               · obtain rfl : j = k := by omega
                 rw [HG.out]; clear HA HG hs td td2; simp only [Dx.nb, Bool.or_eq_true, Bool.and_eq_true, decide_eq_true_eq, beq_iff_eq]; first | omega | (simp at *; omega))
        · obtain rfl : k = s.size := by omega
          go_wp2
          go_ret
          refine ⟨?_, rfl⟩
          rw [Dx.name_all (by omega) HA.out]
          rfl

end Go.Proofs.Ytpljmoiemmaecaa
