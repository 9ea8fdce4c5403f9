/- Set, places, Once, Alike. -/
import Derived.Test.YtanbbomdidefjaaKc
import Derived.Deep.Onto
namespace Go.Proofs.Ytanbbomdidefjaa
open Go.RowKit Go.Lib

/-- where each name stands first, among the first k -/
def pV (xs : List Atr) (k : Nat) (t : ByteArray) : Option Int := if pl xs t < k then some (pl xs t : Int) else none
theorem pV_zero (xs : List Atr) (t : ByteArray) : pV xs 0 t = none := rfl
theorem pV_in {xs : List Atr} {k : Nat} {x : Atr} (hx : xs[k]? = some x) (h : pl xs x.1 < k) (t : ByteArray) : pV xs k t = pV xs (k + 1) t := by
  unfold pV
  by_cases h1 : pl xs t < k
  · rw [if_pos h1, if_pos (by omega)]
  · rw [if_neg h1]
    by_cases h2 : pl xs t = k
    · have hl := (List.getElem?_eq_some_iff.1 hx).1
      obtain ⟨y, hy, hy2⟩ := pl_at (xs := xs) (s := t) (by omega)
      rw [h2, hx] at hy
      rw [← Option.some.inj hy] at hy2
      rw [hy2] at h
      omega
    · rw [if_neg (by omega)]
theorem pV_new {xs : List Atr} {k : Nat} {x : Atr} (hx : xs[k]? = some x) (h : ¬ pl xs x.1 < k) (t : ByteArray) : (if t = x.1 then some (k : Int) else pV xs k t) = pV xs (k + 1) t := by
  have hk := pl_le_self hx
  have hl := (List.getElem?_eq_some_iff.1 hx).1
  by_cases e : t = x.1
  · rw [if_pos e, e]
    unfold pV
    rw [if_pos (by omega), show pl xs x.1 = k by omega]
  · rw [if_neg e]
    unfold pV
    by_cases h1 : pl xs t < k
    · rw [if_pos h1, if_pos (by omega)]
    · rw [if_neg h1]
      by_cases h2 : pl xs t = k
      · obtain ⟨y, hy, hy2⟩ := pl_at (xs := xs) (s := t) (by omega)
        rw [h2, hx] at hy
        rw [← Option.some.inj hy] at hy2
        exact absurd hy2.symm e
      · rw [if_neg (by omega)]
/-- short enough names -/
def Sz (xs : List Atr) : Prop := ∀ x ∈ xs, x.1.size ≤ maxLen

theorem setL_len (xs : List Atr) (s v : ByteArray) : (setL xs s v).length ≤ xs.length + 1 := by
  unfold setL
  split <;> simp
theorem cellsA_set (xs : List Atr) (p : Nat) (x : Atr) (v : ByteArray) (hx : xs[p]? = some x) : cellsA (xs.set p (x.1, v)) = (cellsA xs).set (p * 2 + 1) (.string v) := by
  induction xs generalizing p with
  | nil => simp at hx
  | cons y xs ih =>
    have hc : ∀ y xs, cellsA (y :: xs) = .string y.1 :: .string y.2 :: cellsA xs := fun _ _ => rfl
    cases p with
    | zero =>
      simp at hx
      subst hx
      simp [hc]
    | succ p =>
      have := ih p (by simpa using hx)
      rw [List.set_cons_succ, hc, hc, this, show (p + 1) * 2 + 1 = p * 2 + 1 + 1 + 1 by omega]
      simp

end Go.Proofs.Ytanbbomdidefjaa
