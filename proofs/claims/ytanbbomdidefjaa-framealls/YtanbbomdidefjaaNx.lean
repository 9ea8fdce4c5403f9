/- Plain: numbers as bytes, seven bits each; read again. -/
import Derived.WalkKit
namespace Go.Proofs.Ytanbbomdidefjaa
namespace Nx

/-- a number's bytes -/
def put (n : Nat) : List Int := if n < 128 then [(n : Int)] else ((128 + n % 128 : Nat) : Int) :: put (n / 128)
termination_by n
decreasing_by omega

theorem put_lo {n : Nat} (h : n < 128) : put n = [(n : Int)] := by rw [put, if_pos h]
theorem put_hi {n : Nat} (h : 128 ≤ n) : put n = ((128 + n % 128 : Nat) : Int) :: put (n / 128) := by rw [put, if_neg (by omega)]
theorem put_rng (n : Nat) : ∀ x ∈ put n, 0 ≤ x ∧ x ≤ 255 := by
  induction n using Nat.strongRecOn with
  | ind n ih =>
    intro x hx
    by_cases h : n < 128
    · rw [put_lo h] at hx
      simp at hx
      omega
    · rw [put_hi (by omega)] at hx
      rcases List.mem_cons.1 hx with rfl | hx
      · omega
      · exact ih (n / 128) (by omega) x hx
theorem put_len_le : ∀ (k n : Nat), n < 128 ^ k → (put n).length ≤ max k 1
  | 0, n, h => by rw [put_lo (by simp at h; omega)]; simp
  | k + 1, n, h => by
    by_cases h1 : n < 128
    · rw [put_lo h1]; simp
    · rw [put_hi (by omega), List.length_cons]
      have h2 : n / 128 < 128 ^ k := by
        rw [Nat.div_lt_iff_lt_mul (by decide)]
        rw [Nat.pow_succ] at h
        exact h
      have := put_len_le k (n / 128) h2
      have h3 : 0 < k := by
        rcases Nat.eq_zero_or_pos k with rfl | h
        · simp at h2; omega
        · exact h
      omega
theorem put_len (n : Nat) (h : n < 18446744073709551616) : (put n).length ≤ 10 := by
  have := put_len_le 10 n (Nat.lt_of_lt_of_le h (by decide))
  omega
theorem put_pos (n : Nat) : 1 ≤ (put n).length := by
  by_cases h : n < 128
  · rw [put_lo h]; simp
  · rw [put_hi (by omega)]; simp

/-- the number with which bytes begin, how many of them it takes, or why there is none -/
def go : List Int → Nat → Nat → Nat × Nat × Int
  | [], _, _ => (0, 0, 8)
  | b :: l, i, acc =>
    if i = 9 ∧ 1 < b then (0, 0, 2)
    else if 128 ≤ b then go l (i + 1) (acc + (b % 128).toNat * 128 ^ i)
    else if b = 0 ∧ 0 < i then (0, 0, 2)
    else (acc + b.toNat * 128 ^ i, i + 1, 0)

theorem pow9 : (128 : Nat) ^ 9 = 9223372036854775808 := by decide
theorem pow_mono {i : Nat} (h : 9 ≤ i) : 9223372036854775808 ≤ (128 : Nat) ^ i := by
  rw [← pow9]; exact Nat.pow_le_pow_right (by decide) h

theorem go_put (m : Nat) : ∀ (i acc : Nat) (rest : List Int), (0 < m ∨ i = 0) → acc + m * 128 ^ i < 18446744073709551616 → go (put m ++ rest) i acc = (acc + m * 128 ^ i, i + (put m).length, 0) := by
  induction m using Nat.strongRecOn with
  | ind m ih =>
    intro i acc rest h0 hb
    by_cases h : m < 128
    · rw [put_lo h]
      simp only [List.cons_append, List.nil_append, go, List.length_cons, List.length_nil]
      rw [if_neg ?_, if_neg (by omega), if_neg (by omega)]
      · simp
      · rintro ⟨rfl, h1⟩
        rw [pow9] at hb
        omega
    · rw [put_hi (by omega)]
      simp only [List.cons_append, go, List.length_cons]
      have e1 : (((128 + m % 128 : Nat) : Int) % 128).toNat = m % 128 := by omega
      have e2 : m % 128 * 128 ^ i + m / 128 * 128 ^ (i + 1) = m * 128 ^ i := by
        rw [Nat.pow_succ, Nat.mul_comm (128 ^ i) 128, ← Nat.mul_assoc, ← Nat.add_mul]
        congr 1
        omega
      rw [if_neg ?_, if_pos (by omega), e1, ih (m / 128) (by omega) (i + 1) _ rest (.inl (by omega)) (by omega)]
      · rw [Nat.add_assoc, e2]
        simp
        omega
      · rintro ⟨rfl, h1⟩
        rw [pow9] at hb
        omega
theorem first_put (m : Nat) (h : m < 18446744073709551616) (rest : List Int) : go (put m ++ rest) 0 0 = (m, (put m).length, 0) := by
  rw [go_put m 0 0 rest (.inr rfl) (by simpa using h)]
  simp

theorem go_shape : ∀ (l : List Int) (i acc : Nat), i ≤ 9 → acc < 128 ^ i → (∀ x ∈ l, 0 ≤ x ∧ x ≤ 255) →
    ((go l i acc).2.2 = 0 ∧ i < (go l i acc).2.1 ∧ (go l i acc).2.1 ≤ i + l.length ∧ (go l i acc).1 < 18446744073709551616) ∨ (((go l i acc).2.2 = 2 ∨ (go l i acc).2.2 = 8) ∧ (go l i acc).1 = 0 ∧ (go l i acc).2.1 = 0)
  | [], i, acc, _, _, _ => .inr ⟨.inr rfl, rfl, rfl⟩
  | b :: l, i, acc, hi, ha, hx => by
    have hb := hx b (by simp)
    simp only [go]
    by_cases h1 : i = 9 ∧ 1 < b
    · rw [if_pos h1]; exact .inr ⟨.inl rfl, rfl, rfl⟩
    · rw [if_neg h1]
      by_cases h2 : 128 ≤ b
      · rw [if_pos h2]
        have h3 : (b % 128).toNat ≤ 127 := by omega
        have h4 : (b % 128).toNat * 128 ^ i ≤ 127 * 128 ^ i := Nat.mul_le_mul_right _ h3
        have := go_shape l (i + 1) (acc + (b % 128).toNat * 128 ^ i) (by omega) (by rw [Nat.pow_succ]; omega) (fun x h => hx x (by simp [h]))
        rw [List.length_cons]
        rcases this with h | h
        · exact .inl ⟨h.1, by omega, by omega, h.2.2.2⟩
        · exact .inr h
      · rw [if_neg h2]
        by_cases h5 : b = 0 ∧ 0 < i
        · rw [if_pos h5]; exact .inr ⟨.inl rfl, rfl, rfl⟩
        · rw [if_neg h5]
          refine .inl ⟨rfl, by simp, by simp, ?_⟩
          show acc + b.toNat * 128 ^ i < _
          rcases Nat.lt_or_ge i 9 with h9 | h9
          · have h6 : b.toNat * 128 ^ i ≤ 127 * 128 ^ i := Nat.mul_le_mul_right _ (by omega)
            have h7 : (128 : Nat) ^ i * 128 ≤ 9223372036854775808 := by
              rw [← Nat.pow_succ, ← pow9]
              exact Nat.pow_le_pow_right (by decide) h9
            omega
          · obtain rfl : i = 9 := by omega
            rw [pow9] at ha ⊢
            omega

/-- none of two unlike numbers' bytes begin another one's -/
theorem put_pre {a b : Nat} (ha : a < 18446744073709551616) (hb : b < 18446744073709551616) {r s : List Int} (h : put a ++ r = put b ++ s) : a = b := by
  have h1 := first_put a ha r
  rw [h, first_put b hb s] at h1
  exact (congrArg Prod.fst h1).symm
theorem put_begins {a b : Nat} (ha : a < 18446744073709551616) (hb : b < 18446744073709551616) : put a <+: put b ↔ a = b := by
  constructor
  · rintro ⟨r, h⟩
    exact put_pre (s := []) ha hb (by simpa using h)
  · rintro rfl
    exact List.prefix_refl _
theorem text_begins {s t : List Int} (hs : s.length < 18446744073709551616) (ht : t.length < 18446744073709551616) : put s.length ++ s <+: put t.length ++ t ↔ s = t := by
  constructor
  · rintro ⟨r, h⟩
    rw [List.append_assoc] at h
    have e := put_pre hs ht h
    rw [e, List.append_cancel_left_eq] at h
    have hr : r = [] := by
      have := congrArg List.length h
      rw [List.length_append] at this
      exact List.eq_nil_of_length_eq_zero (by omega)
    simpa [hr] using h
  · rintro rfl
    exact List.prefix_refl _
end Nx
end Go.Proofs.Ytanbbomdidefjaa
