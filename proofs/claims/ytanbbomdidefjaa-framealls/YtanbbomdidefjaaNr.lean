/- The contract of num.firstNum. -/
import Derived.Test.YtanbbomdidefjaaGm
import Derived.Test.YtanbbomdidefjaaNx
namespace Go.Proofs.Ytanbbomdidefjaa
open Go.RowKit

theorem and127u8 (c : Nat) (h : c < 256) : bits .and .u8 (c : Int) 127 = (c : Int) % 128 := by
  have := u8_and_nat c 127 h (by omega)
  rw [nat_mask7, show ((127 : Nat) : Int) = 127 from rfl] at this
  rw [this]
  omega
theorem and128u8 (c : Nat) (h : c < 256) : bits .and .u8 (c : Int) 128 = ((c / 128 * 128 : Nat) : Int) := by
  have := u8_and_nat c 128 h (by omega)
  have e := nat_bit 7 c
  rw [show 2 ^ 7 = 128 from rfl] at e
  rw [e, show ((128 : Nat) : Int) = 128 from rfl] at this
  rw [this]
  omega

theorem pow_two_k (k : Nat) : (2 : Int) ^ (7 * k) = ((128 ^ k : Nat) : Int) := by
  rw [Int.pow_mul]
  simp
theorem join_any (k acc c : Nat) (hk : k ≤ 9) (hacc : acc < 128 ^ k) (hb : k < 9 ∨ c ≤ 1) (hc : c < 256) :
    bits .or .u64 (acc : Int) (IntKind.u64.wrap ((c : Int) % 128 * 2 ^ (7 * k))) = ((acc + c % 128 * 128 ^ k : Nat) : Int) := by
  have hp : (128 : Nat) ^ k ≤ 9223372036854775808 := by
    rw [← Nx.pow9]; exact Nat.pow_le_pow_right (by decide) hk
  have hq : c % 128 * 128 ^ k < 18446744073709551616 := by
    rcases hb with hb | hb
    · have h6 : c % 128 * 128 ^ k ≤ 127 * 128 ^ k := Nat.mul_le_mul_right _ (by omega)
      have h7 : (128 : Nat) ^ k * 128 ≤ 9223372036854775808 := by
        rw [← Nat.pow_succ, ← Nx.pow9]
        exact Nat.pow_le_pow_right (by decide) hb
      omega
    · have h6 : c % 128 * 128 ^ k ≤ 1 * 128 ^ k := Nat.mul_le_mul_right _ (by omega)
      omega
  have e1 : IntKind.u64.wrap ((c : Int) % 128 * 2 ^ (7 * k)) = ((c % 128 * 128 ^ k : Nat) : Int) := by
    rw [pow_two_k]
    have : (c : Int) % 128 * ((128 ^ k : Nat) : Int) = ((c % 128 * 128 ^ k : Nat) : Int) := by
      rw [Int.natCast_mul]; rfl
    rw [this, IntKind.wrap_u64]
    omega
  rw [e1, u64_or_nat acc _ (by omega) hq, Nat.or_comm, nat_join (7 * k) _ acc ?_ ?_, Nat.add_comm]
  · rw [Nat.pow_mul]; exact Nat.mul_mod_left _ _
  · rw [Nat.pow_mul]; exact hacc

def FirstPost (s : ByteArray) (w : World) (e : Ending) (w' : World) : Prop :=
  ∃ (n k : Nat) (err : Int), Nx.go (bs s) 0 0 = (n, k, err) ∧ e = .returned (.tuple #[.int .u64 n, .int .i64 k, .int .i64 err]) ∧ w = w'

set_option maxRecDepth 100000 in
set_option maxHeartbeats 400000 in
theorem firstNum_any (s : ByteArray) (w : World) (hs : s.size ≤ maxLen) : Calls Try.prog 36 #[.string s] w (FirstPost s w) := by
  unfold maxLen at hs
  go_enter Try.func36, Try.ntmps36
  go_wp2
  go_loop [2, 9] (fun n i => ∃ k acc : Nat, k ≤ s.size ∧ k ≤ 9 ∧ i = .int .i64 k ∧ n = .int .u64 acc ∧ acc < 128 ^ k ∧ Nx.go ((bs s).drop k) k acc = Nx.go (bs s) 0 0) (fun _ i => s.size - (intOf i).toNat)
  case atStart => exact ⟨0, 0, by omega, by omega, rfl, rfl, by decide, rfl⟩
  case round =>
    obtain ⟨k, acc, hk, hk9, rfl, rfl, hacc, hgo⟩ := hrel
    have HG := Lib.hid hgo
    have HA := Lib.hid hacc
    clear hgo hacc
    by_cases hlt : k < s.size
    · have hd := bs_drop s k hlt
      have hc := (s[k]).toNat_lt
      have HD := Lib.hid hd
      clear hd
      obtain ⟨c, hcc⟩ : ∃ c : Nat, s[k].toNat = c := ⟨_, rfl⟩
      have h127 := and127u8 c (by omega)
      have h7 : (7 : Int) * (k : Int) ≤ 63 := by omega
      have hcd : Nx.go ((bs s).drop k) k acc = Nx.go ((c : Int) :: (bs s).drop (k + 1)) k acc := by rw [HD.out, hcc]
      have HC := Lib.hid hcd
      clear hcd HD
      by_cases h1 : k = 9 ∧ 1 < c
      · obtain ⟨rfl, h1⟩ := h1
        go_wp2
        go_ret3
        refine ⟨0, 0, 2, ?_, rfl, rfl⟩
        rw [← HG.out, HC.out, Nx.go, if_pos ⟨rfl, by omega⟩]
      · have hj := join_any k acc c hk9 HA.out (by omega) (by omega)
        have HN := Lib.hid h1
        have HJ := Lib.hid hj
        have t0 : ((k : Int) == 9) = false ∨ ((k : Int) == 9) = true ∧ decide (1 < (c : Int)) = false := by
          by_cases h9 : k = 9
          · exact .inr ⟨by simp; omega, by simp; omega⟩
          · exact .inl (by simp; omega)
        have tc : ¬ (k = 9 ∧ (1 : Int) < (c : Int)) := by have := HN.out; omega
        have HT := Lib.hid tc
        clear h1 hj tc
        by_cases h2 : 128 ≤ c
        · have t2 : (bits .and .u8 (c : Int) 128 != 0) = true := by
            rw [and128u8 c (by omega)]; simp; omega
          have t9 : ((k : Int) == 9) = false := by have := HN.out; simp; omega
          clear t0
          go_wp2
          refine ⟨⟨k + 1, acc + c % 128 * 128 ^ k, by omega, by have := HN.out; omega, by go_num, by rw [HJ.out], ?_, ?_⟩, by simp [intOf]; omega⟩
          · have h3 : c % 128 * 128 ^ k ≤ 127 * 128 ^ k := Nat.mul_le_mul_right _ (by omega)
            have := HA.out
            rw [Nat.pow_succ]
            omega
          · rw [← HG.out, HC.out, Nx.go, if_neg HT.out, if_pos (by omega)]
            congr 3
        · have t2 : (bits .and .u8 (c : Int) 128 != 0) = false := by
            rw [and128u8 c (by omega)]; simp; omega
          by_cases h4 : c = 0
          · have t4 : ((c : Int) == 0) = true := by simp; omega
            by_cases h5 : 0 < k
            · have t5 : decide ((0 : Int) < (k : Int)) = true := by simp; omega
              have HCc := Lib.hid h4
              clear h4
              rcases t0 with t9 | ⟨t9, t1⟩
              all_goals
                go_wp2
                go_ret3
                refine ⟨0, 0, 2, ?_, rfl, rfl⟩
                rw [← HG.out, HC.out, Nx.go, if_neg HT.out, if_neg (by omega), if_pos ⟨by have := HCc.out; omega, h5⟩]
            · have t5 : decide ((0 : Int) < (k : Int)) = false := by simp; omega
              have HCc := Lib.hid h4
              clear h4
              rcases t0 with t9 | ⟨t9, t1⟩
              all_goals
                go_wp2
                go_ret3
                refine ⟨acc + c % 128 * 128 ^ k, k + 1, 0, ?_, ?_, rfl⟩
                · rw [← HG.out, HC.out, Nx.go, if_neg HT.out, if_neg (by omega), if_neg (by omega)]
                  have := HCc.out
                  simp [this]
                · rw [HJ.out]; rfl
          · have t4 : ((c : Int) == 0) = false := by simp; omega
            have HCc := Lib.hid h4
            clear h4
            rcases t0 with t9 | ⟨t9, t1⟩
            all_goals
              go_wp2
              go_ret3
              refine ⟨acc + c % 128 * 128 ^ k, k + 1, 0, ?_, ?_, rfl⟩
              · rw [← HG.out, HC.out, Nx.go, if_neg HT.out, if_neg (by omega), if_neg (by have := HCc.out; omega)]
                have : c % 128 = c := by omega
                simp [this]
              · rw [HJ.out]; rfl
    · obtain rfl : k = s.size := by omega
      go_wp2
      go_ret3
      refine ⟨0, 0, 8, ?_, rfl, rfl⟩
      rw [← HG.out, List.drop_of_length_le (by rw [bs_len]; omega)]
      rfl

end Go.Proofs.Ytanbbomdidefjaa
