/- Plain functions for layer 1 (text): what a first byte asks for, the sign with which bytes begin, all signs. -/
import Derived.WalkKit
namespace Go.Proofs.YtdoglpaggmdnpaaDoor
namespace Tx

def small (r : Int) : Int := if 65 ≤ r ∧ r ≤ 90 then r + 32 else r
def digit (r : Int) : Bool := decide (48 ≤ r ∧ r ≤ 57)
def letter (r : Int) : Bool := decide (65 ≤ r ∧ r ≤ 90 ∨ 97 ≤ r ∧ r ≤ 122)
def blank (r : Int) : Bool := decide (r = 9 ∨ r = 10 ∨ r = 12 ∨ r = 13 ∨ r = 32)
def hex (r : Int) : Int := if 48 ≤ r ∧ r ≤ 57 then r - 48 else if 97 ≤ r ∧ r ≤ 102 then r - 87 else if 65 ≤ r ∧ r ≤ 70 then r - 55 else -1

/-- how many bytes a lead byte asks for -/
def more (l : Int) : Nat := if 194 ≤ l ∧ l ≤ 223 then 1 else if 224 ≤ l ∧ l ≤ 239 then 2 else if 240 ≤ l ∧ l ≤ 244 then 3 else 0
def lo (l : Int) : Int := if l = 224 then 160 else if l = 240 then 144 else 128
def hi (l : Int) : Int := if l = 237 then 159 else if l = 244 then 143 else 191
def base (l : Int) : Int := if l ≤ 223 then l - 192 else if l ≤ 239 then l - 224 else l - 240

def scan : Nat → Int → Int → Int → Nat → List Int → Int × Nat
  | 0, _, _, acc, k, _ => (acc, k)
  | _ + 1, _, _, _, k, [] => (65533, k)
  | m + 1, a, b, acc, k, x :: r => if x < a ∨ b < x then (65533, k) else scan m 128 191 (acc * 64 + (x - 128)) (k + 1) r

/-- the sign with which bytes begin, and how many they are -/
def one : List Int → Int × Nat
  | [] => (65533, 1)
  | c :: r => if c < 128 then (c, 1) else if more c = 0 then (65533, 1) else scan (more c) (lo c) (hi c) (base c) 1 r

theorem scan_pos (m : Nat) (a b acc : Int) (k : Nat) (l : List Int) : k ≤ (scan m a b acc k l).2 ∧ (scan m a b acc k l).2 ≤ k + l.length := by
  induction m generalizing a b acc k l with
  | zero => simp [scan]
  | succ m ih =>
    cases l with
    | nil => simp [scan]
    | cons x r =>
      simp only [scan]
      split
      · simp
      · have := ih 128 191 (acc * 64 + (x - 128)) (k + 1) r
        simp only [List.length_cons]; omega
theorem one_pos (l : List Int) (h : l ≠ []) : 1 ≤ (one l).2 ∧ (one l).2 ≤ l.length := by
  cases l with
  | nil => exact absurd rfl h
  | cons c r =>
    simp only [one]
    split
    · simp
    · split
      · simp
      · have := scan_pos (more c) (lo c) (hi c) (base c) 1 r
        simp only [List.length_cons]; omega

/-- all signs of bytes, with their places, from a place on -/
def all (b : List Int) : Nat → Nat → List (Nat × Int)
  | 0, _ => []
  | f + 1, at_ => if at_ < b.length then (at_, (one (b.drop at_)).1) :: all b f (at_ + (one (b.drop at_)).2) else []

end Tx
end Go.Proofs.YtdoglpaggmdnpaaDoor
