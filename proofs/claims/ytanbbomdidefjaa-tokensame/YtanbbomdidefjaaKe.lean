/- Alike. -/
import Derived.Test.YtanbbomdidefjaaKd
namespace Go.Proofs.Ytanbbomdidefjaa
open Go.RowKit Go.Lib

theorem alike_len {a b : List Atr} (h : a.length ≠ b.length) : alike a b = false := by
  unfold alike
  rw [Bool.and_eq_false_iff]
  left
  simpa using h
theorem alike_bad {a b : List Atr} {k : Nat} {x : Atr} (hx : a[k]? = some x) (h : alk b x = false) : alike a b = false := by
  unfold alike
  rw [Bool.and_eq_false_iff]
  right
  rw [List.all_eq_false]
  exact ⟨x, List.mem_of_getElem? hx, by rw [h]; simp⟩
theorem alike_all {a b : List Atr} (hl : a.length = b.length) (h : (a.take a.length).all (alk b) = true) : alike a b = true := by
  unfold alike
  rw [List.take_of_length_le (Nat.le_refl _)] at h
  rw [Bool.and_eq_true]
  exact ⟨by simpa using hl, h⟩
theorem all_snoc {a b : List Atr} {k : Nat} {x : Atr} (hx : a[k]? = some x) (h : (a.take k).all (alk b) = true) (h2 : alk b x = true) : (a.take (k + 1)).all (alk b) = true := by
  rw [take_snoc hx, List.all_append, h]
  simp [h2]

end Go.Proofs.Ytanbbomdidefjaa
