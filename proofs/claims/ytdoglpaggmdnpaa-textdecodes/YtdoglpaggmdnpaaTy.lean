/- More on the signs of bytes: the reference's way. -/
import Derived.Test.YtdoglpaggmdnpaaTx
namespace Go.Proofs.Ytdoglpaggmdnpaa
namespace Tx

/-- the number behind j bytes -/
def acc (a : Int) (r : List Int) : Nat → Int
  | 0 => a
  | j + 1 => acc a r j * 64 + (r[j]?.getD 0 - 128)
def loAt (c : Int) (j : Nat) : Int := if j = 0 then lo c else 128
def hiAt (c : Int) (j : Nat) : Int := if j = 0 then hi c else 191
theorem scan_next (m j : Nat) (c a : Int) (k : Nat) (r : List Int) (hj : j < m) (hr : j < r.length) (h0 : ¬ r[j]?.getD 0 < loAt c j) (h1 : ¬ hiAt c j < r[j]?.getD 0) :
    scan (m - j) (loAt c j) (hiAt c j) (acc a r j) k (r.drop j) = scan (m - (j + 1)) (loAt c (j + 1)) (hiAt c (j + 1)) (acc a r (j + 1)) (k + 1) (r.drop (j + 1)) := by
  have hx : r[j]?.getD 0 = r[j] := by simp [hr]
  rw [List.drop_eq_getElem_cons hr, show m - j = (m - (j + 1)) + 1 by omega, scan, if_neg (by rw [hx] at h0 h1; omega)]
  simp only [acc, loAt, hiAt, hx]
  rfl
theorem scan_bad (m j : Nat) (c a : Int) (k : Nat) (r : List Int) (hj : j < m) (hr : j < r.length) (h : r[j]?.getD 0 < loAt c j ∨ hiAt c j < r[j]?.getD 0) :
    scan (m - j) (loAt c j) (hiAt c j) (acc a r j) k (r.drop j) = (65533, k) := by
  have hx : r[j]?.getD 0 = r[j] := by simp [hr]
  rw [List.drop_eq_getElem_cons hr, show m - j = (m - (j + 1)) + 1 by omega, scan, if_pos (by rw [hx] at h; exact h)]
theorem scan_short (m j : Nat) (c a : Int) (k : Nat) (r : List Int) (hj : j < m) (hr : ¬ j < r.length) :
    scan (m - j) (loAt c j) (hiAt c j) (acc a r j) k (r.drop j) = (65533, k) := by
  rw [List.drop_eq_nil_of_le (by omega), show m - j = (m - (j + 1)) + 1 by omega, scan]

theorem acc_rng (a : Int) (r : List Int) (ha : 0 ≤ a ∧ a ≤ 31) (hb : ∀ i : Nat, 0 ≤ r[i]?.getD 0 ∧ r[i]?.getD 0 ≤ 255) (i : Nat) (hi : i ≤ 3) : -10000000 ≤ acc a r i ∧ acc a r i ≤ 10000000 := by
  have b0 := hb 0
  have b1 := hb 1
  have b2 := hb 2
  match i, hi with
  | 0, _ => simp only [acc]; omega
  | 1, _ => simp only [acc]; omega
  | 2, _ => simp only [acc]; omega
  | 3, _ => simp only [acc]; omega

end Tx
end Go.Proofs.Ytdoglpaggmdnpaa
