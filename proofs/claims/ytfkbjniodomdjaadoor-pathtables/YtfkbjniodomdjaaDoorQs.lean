/- Texts in order, by their bytes. -/
import Derived.Test.YtfkbjniodomdjaaDoorQp
import Derived.Sort.Walk0
namespace Go.Proofs.YtfkbjniodomdjaaDoor

def ltS (a b : ByteArray) : Bool := Op.bytesLess a.toList b.toList
theorem ba_ext {a b : ByteArray} (h : a.toList = b.toList) : a = b := by
  rw [ByteArray.toList_eq, ByteArray.toList_eq] at h
  exact ByteArray.ext (Array.toList_inj.1 h)
theorem ordS : Ord ltS := by
  refine ⟨fun a => ?_, fun a b c h1 h2 => ?_, fun a b h1 h2 => ?_⟩
  · unfold ltS
    rw [bytesLess_eq]
    exact decide_eq_false (List.lt_irrefl _)
  · unfold ltS at *
    rw [bytesLess_eq] at *
    exact decide_eq_true (List.lt_trans (of_decide_eq_true h1) (of_decide_eq_true h2))
  · unfold ltS at *
    rw [bytesLess_eq] at *
    have h2' := of_decide_eq_false h2
    refine decide_eq_true ?_
    by_cases h : b.toList < a.toList
    · exact h
    · exact absurd (ba_ext (List.le_antisymm (List.not_lt.1 h) (List.not_lt.1 h2'))) h1
theorem str_beq (x y : ByteArray) : (x.toList == y.toList) = decide (x = y) := by
  by_cases h : x = y
  · subst h; simp
  · rw [decide_eq_false h, beq_eq_false_iff_ne]
    exact fun e => h (ba_ext e)
/-- whether a text is among some -/
def inS (ns : List ByteArray) (x : ByteArray) : Bool := ns.any (fun y => decide (y = x))
theorem inS_iff {ns : List ByteArray} {x : ByteArray} : inS ns x = true ↔ x ∈ ns := by
  unfold inS
  rw [List.any_eq_true]
  constructor
  · rintro ⟨y, hy, h⟩
    rw [← of_decide_eq_true h]
    exact hy
  · intro h
    exact ⟨x, h, decide_eq_true rfl⟩
theorem inS_t {ns : List ByteArray} {x : ByteArray} (h : x ∈ ns) : inS ns x = true := inS_iff.2 h
theorem inS_f {ns : List ByteArray} {x : ByteArray} (h : x ∉ ns) : inS ns x = false := by
  cases hh : inS ns x with
  | false => rfl
  | true => exact absurd (inS_iff.1 hh) h
end Go.Proofs.YtfkbjniodomdjaaDoor
