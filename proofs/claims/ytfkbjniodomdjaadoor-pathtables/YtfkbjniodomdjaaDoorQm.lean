/- Maps of numbers to truth, as sets with their size. -/
import Derived.Test.YtfkbjniodomdjaaDoorProg
import Derived.Test.YtfkbjniodomdjaaDoorMem
import Derived.Maps.OwnSet
import Derived.Maps.RangeWalk
import Derived.Lib.Hide
import Derived.RangeFuncFrom
namespace Go.Proofs.YtfkbjniodomdjaaDoor
open Go.RowKit Go.Maps Go.WideMaps

def bdt (z : Bool) : DataW Unit := .lit (.bool z)
def bvt : Value → Option (DataW Unit × List MemPlace)
  | .bool z => some (bdt z, [])
  | _ => none
theorem bvt_inv {v : Value} {d : DataW Unit} {ps : List MemPlace} (h : bvt v = some (d, ps)) : ∃ z, v = .bool z ∧ d = bdt z := by
  unfold bvt at h
  split at h
  · simp at h
    exact ⟨_, rfl, h.1.symm⟩
  · cases h
theorem bdt_inj {a b : Bool} (h : bdt a = bdt b) : a = b := by
  unfold bdt at h
  injection h with h
  injection h
theorem KIn : Keyed Tryd.prog 3 := int_keyed Tryd.underlying3
/-- a number of 64 bits -/
def I64 (z : Int) : Prop := (Lit.int .i64 z).wf = true

/-- block b is a map of at most n numbers, c of them, to whether S has them -/
def MapB (w : World) (b n c : Nat) (S : Int → Bool) : Prop :=
  ∃ D : DataW Unit, w.ownsMap Tryd.prog 3 bvt b n D ∧ Maps.size D = c ∧ ∀ z : Int, has D (.int .i64 z) = S z ∧ D.atKey (.int .i64 z) (bdt false) = bdt (S z)

section
variable {w w' : World} {b n c : Nat} {S : Int → Bool}
theorem MapB.lt (h : MapB w b n c S) : b < w.heap.size := by
  obtain ⟨D, h1, _⟩ := h
  exact h1.lt
theorem MapB.ofBlock (h : MapB w b n c S) (hb : w'.heap[b]? = w.heap[b]?) : MapB w' b n c S := by
  obtain ⟨D, ⟨es, cl, h1, h2⟩, h3⟩ := h
  exact ⟨D, ⟨es, cl, hb.trans h1, h2⟩, h3⟩
theorem MapB.block (h : MapB w b n c S) : ∃ o : Obj, w.heap[b]? = some o ∧ o.isCells = false := by
  obtain ⟨D, ⟨es, cl, h1, h2⟩, h3⟩ := h
  exact ⟨_, h1, rfl⟩
theorem MapB.new (w : World) : MapB (w.alloc (.map #[] 0)) w.heap.size 0 0 (fun _ => false) :=
  ⟨.map [], World.ownsMap_made w Tryd.prog 3 bvt, rfl, fun _ => ⟨rfl, rfl⟩⟩
theorem MapB.le (h : MapB w b n c S) : c ≤ n := by
  obtain ⟨D, h1, hc, h2⟩ := h
  rw [← hc]
  exact h1.size_le
theorem MapB.ext {S' : Int → Bool} {c' : Nat} (h : MapB w b n c S) (hc : c = c') (e : ∀ z, S z = S' z) : MapB w b n c' S' := by
  rw [← hc, show S' = S from funext fun z => (e z).symm]
  exact h
end
end Go.Proofs.YtfkbjniodomdjaaDoor
