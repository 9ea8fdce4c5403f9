/- Plain functions for layer 1 (text): what a first byte asks for, the sign with which bytes begin, all signs. -/
import Derived.WalkKit
namespace Go.Proofs.YtfjbelkpblgfiaaDoor
namespace Tx

def small (r : Int) : Int := if 65 ≤ r ∧ r ≤ 90 then r + 32 else r
def digit (r : Int) : Bool := decide (48 ≤ r ∧ r ≤ 57)
def letter (r : Int) : Bool := decide (65 ≤ r ∧ r ≤ 90 ∨ 97 ≤ r ∧ r ≤ 122)
def blank (r : Int) : Bool := decide (r = 9 ∨ r = 10 ∨ r = 12 ∨ r = 13 ∨ r = 32)
def hex (r : Int) : Int := if 48 ≤ r ∧ r ≤ 57 then r - 48 else if 97 ≤ r ∧ r ≤ 102 then r - 87 else if 65 ≤ r ∧ r ≤ 70 then r - 55 else -1

/-- how many bytes a lead byte asks for -/
def more (l : Int) : Nat := if 194 ≤ l ∧ l ≤ 223 then 1 else if 224 ≤ l ∧ l ≤ 239 then 2 else if 240 ≤ l ∧ l ≤ 244 then 3 else 0
def lo (l : Int) : Int := if l = 224 then 160 else if l = 240 then 144 else 128
def hi (l : Int) : Int := if l = 237 then 159 else if l = 244 then 143 else 191
def base (l : Int) : Int := if l ≤ 223 then l - 192 else if l ≤ 239 then l - 224 else l - 240

def scan : Nat → Int → Int → Int → Nat → List Int → Int × Nat
  | 0, _, _, acc, k, _ => (acc, k)
  | _ + 1, _, _, _, k, [] => (65533, k)
  | m + 1, a, b, acc, k, x :: r => if x < a ∨ b < x then (65533, k) else scan m 128 191 (acc * 64 + (x - 128)) (k + 1) r

/-- the sign with which bytes begin, and how many they are -/
def one : List Int → Int × Nat
  | [] => (65533, 1)
  | c :: r => if c < 128 then (c, 1) else if more c = 0 then (65533, 1) else scan (more c) (lo c) (hi c) (base c) 1 r

theorem lo_bd (l : Int) : 128 ≤ lo l := by unfold lo; (repeat' split) <;> omega
theorem hi_bd (l : Int) : hi l ≤ 191 := by unfold hi; (repeat' split) <;> omega
/-- how great a number may be behind j bytes -/
def accOk (j : Nat) (a : Int) : Prop := 0 ≤ a ∧ (j = 0 → a < 32) ∧ (j = 1 → a < 2048) ∧ (j = 2 → a < 131072) ∧ (j = 3 → a < 8388608)
theorem acc_bd {j : Nat} {a : Int} (h : accOk j a) (hj : j ≤ 3) : 0 ≤ a ∧ a < 8388608 := by
  unfold accOk at h
  omega
theorem acc_step {j : Nat} {a x : Int} (h : accOk j a) (hj : j < 3) (h0 : 128 ≤ x) (h1 : x ≤ 191) : accOk (j + 1) (a * 64 + (x - 128)) := by
  unfold accOk at h ⊢
  omega

theorem scan_pos (m : Nat) (a b acc : Int) (k : Nat) (l : List Int) : k ≤ (scan m a b acc k l).2 ∧ (scan m a b acc k l).2 ≤ k + l.length := by
  induction m generalizing a b acc k l with
  | zero => simp [scan]
  | succ m ih =>
    cases l with
    | nil => simp [scan]
    | cons x r =>
      simp only [scan]
      split
      · simp
      · have := ih 128 191 (acc * 64 + (x - 128)) (k + 1) r
        simp only [List.length_cons]; omega
theorem one_pos (l : List Int) (h : l ≠ []) : 1 ≤ (one l).2 ∧ (one l).2 ≤ l.length := by
  cases l with
  | nil => exact absurd rfl h
  | cons c r =>
    simp only [one]
    split
    · simp
    · split
      · simp
      · have := scan_pos (more c) (lo c) (hi c) (base c) 1 r
        simp only [List.length_cons]; omega

/-- all signs of bytes, with their places, from a place on -/
def all (b : List Int) : Nat → Nat → List (Nat × Int)
  | 0, _ => []
  | f + 1, p => if p < b.length then (p, (one (b.drop p)).1) :: all b f (p + (one (b.drop p)).2) else []
theorem all_fuel (b : List Int) : ∀ (f g p : Nat), b.length - p ≤ f → b.length - p ≤ g → all b f p = all b g p
  | 0, 0, _, _, _ => rfl
  | 0, g + 1, p, h, _ => by simp [all, show ¬ p < b.length by omega]
  | f + 1, 0, p, _, h => by simp [all, show ¬ p < b.length by omega]
  | f + 1, g + 1, p, hf, hg => by
    simp only [all]
    split
    · rename_i hp
      have := one_pos (b.drop p) (by intro e; have := congrArg List.length e; simp at this; omega)
      rw [all_fuel b f g _ (by omega) (by omega)]
    · rfl
/-- the signs from a place on -/
def rest (b : List Int) (p : Nat) : List (Nat × Int) := all b b.length p
def signs (b : List Int) : List (Nat × Int) := rest b 0
theorem rest_end (b : List Int) (p : Nat) (h : ¬ p < b.length) : rest b p = [] := by
  unfold rest
  cases b.length <;> simp_all [all]
theorem rest_step (b : List Int) (p : Nat) (h : p < b.length) : rest b p = (p, (one (b.drop p)).1) :: rest b (p + (one (b.drop p)).2) := by
  unfold rest
  rw [all_fuel b b.length (b.length + 1) p (by omega) (by omega)]
  simp only [all, if_pos h]
theorem one_le (b : List Int) (p : Nat) (h : p < b.length) : 1 ≤ (one (b.drop p)).2 ∧ p + (one (b.drop p)).2 ≤ b.length := by
  have := one_pos (b.drop p) (by intro e; have := congrArg List.length e; simp at this; omega)
  simp at this
  omega
theorem rest_len (b : List Int) : ∀ (k p : Nat), b.length - p ≤ k → (rest b p).length ≤ b.length - p
  | 0, p, h => by rw [rest_end b p (by omega)]; simp
  | k + 1, p, h => by
    by_cases hp : p < b.length
    · rw [rest_step b p hp]
      have h1 := one_le b p hp
      have := rest_len b k (p + (one (b.drop p)).2) (by omega)
      simp only [List.length_cons]
      omega
    · rw [rest_end b p hp]; simp

/-- one sign more: ends of lines are one, a mark in front is none -/
def decStep (st : List Int × Bool) (x : Nat × Int) : List Int × Bool :=
  if x.1 = 0 ∧ x.2 = 65279 then (st.1, false) else if x.2 = 13 then (st.1 ++ [10], true) else if x.2 = 10 ∧ st.2 = true then (st.1, false) else (st.1 ++ [x.2], false)
def decTo (xs : List (Nat × Int)) : List Int × Bool := xs.foldl decStep ([], false)
def decode (b : List Int) : List Int := (decTo (signs b)).1
theorem decTo_snoc (xs : List (Nat × Int)) (x : Nat × Int) : decTo (xs ++ [x]) = decStep (decTo xs) x := by simp [decTo, List.foldl_append]
theorem decTo_len (xs : List (Nat × Int)) : (decTo xs).1.length ≤ xs.length := by
  have : ∀ (xs : List (Nat × Int)) (st : List Int × Bool), (xs.foldl decStep st).1.length ≤ st.1.length + xs.length := by
    intro xs
    induction xs with
    | nil => intro st; simp
    | cons x xs ih =>
      intro st
      have h1 := ih (decStep st x)
      have h2 : (decStep st x).1.length ≤ st.1.length + 1 := by
        unfold decStep
        (repeat' split) <;> simp
      simp only [List.foldl_cons, List.length_cons]
      omega
  simpa [decTo] using this xs ([], false)

theorem dec_bom {pre : List (Nat × Int)} {p : Nat} {r : Int} {q : Bool} (hp : p = 0) (h : (r == 65279) = true) (hq : q = (r == 13)) : decTo (pre ++ [(p, r)]) = ((decTo pre).1, q) := by
  have h1 : r = 65279 := eq_of_beq h
  rw [decTo_snoc, hq]; simp [decStep, hp, h1]
theorem dec_cr {pre : List (Nat × Int)} {p : Nat} {r : Int} {q : Bool} (h : (r == 13) = true) (hq : q = (r == 13)) : decTo (pre ++ [(p, r)]) = ((decTo pre).1 ++ [10], q) := by
  have h1 : r = 13 := eq_of_beq h
  rw [decTo_snoc, hq]; simp [decStep, h1]
theorem dec_lf {pre : List (Nat × Int)} {p : Nat} {r : Int} {q : Bool} (h : r = 10) (ha : (decTo pre).2 = true) (hq : q = (r == 13)) : decTo (pre ++ [(p, r)]) = ((decTo pre).1, q) := by
  rw [decTo_snoc, hq]; simp [decStep, h, ha]
theorem dec_other {pre : List (Nat × Int)} {p : Nat} {r : Int} {q : Bool} (h0 : ¬ p = 0 ∨ (r == 65279) = false) (h13 : (r == 13) = false) (h : ¬ r = 10 ∨ (decTo pre).2 = false) (hq : q = (r == 13)) : decTo (pre ++ [(p, r)]) = ((decTo pre).1 ++ [r], q) := by
  have h1 : ¬ r = 13 := by simpa using h13
  have h2 : ¬ (p = 0 ∧ r = 65279) := by
    rintro ⟨hp, hr⟩
    rcases h0 with h0 | h0
    · exact h0 hp
    · subst hr; simp at h0
  have h3 : ¬ (r = 10 ∧ (decTo pre).2 = true) := by
    rintro ⟨hr, ha⟩
    rcases h with h | h
    · exact h hr
    · rw [ha] at h; cases h
  rw [decTo_snoc, hq, h13]; unfold decStep; rw [if_neg h2, if_neg h1, if_neg h3]

theorem dec_ten {pre : List (Nat × Int)} {p : Nat} {r : Int} {q : Bool} (hr : r = 10) (ha : (decTo pre).2 = false) (hq : q = (r == 13)) : decTo (pre ++ [(p, r)]) = ((decTo pre).1 ++ [10], q) := by
  subst hr
  exact dec_other (.inr (by decide)) (by decide) (.inr ha) hq

end Tx
end Go.Proofs.YtfjbelkpblgfiaaDoor
