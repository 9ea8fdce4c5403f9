/- Maps of names to numbers, as functions. -/
import Derived.Test.YtanbbomdidefjaaProg
import Derived.Test.YtanbbomdidefjaaMem
import Derived.Maps.OwnSet
import Derived.Maps.RangeWalk
import Derived.Lib.Hide
namespace Go.Proofs.Ytanbbomdidefjaa
open Go.RowKit Go.Maps Go.WideMaps

def nd (z : Int) : DataW Unit := .lit (.int .i64 z)
def nv : Value → Option (DataW Unit × List MemPlace)
  | .int .i64 z => some (nd z, [])
  | _ => none
theorem nv_inv {v : Value} {d : DataW Unit} {ps : List MemPlace} (h : nv v = some (d, ps)) : ∃ z, v = .int .i64 z ∧ d = nd z := by
  unfold nv at h
  split at h
  · simp at h
    exact ⟨_, rfl, h.1.symm⟩
  · cases h
theorem nd_inj {a b : Int} (h : nd a = nd b) : a = b := by
  unfold nd at h
  injection h with h
  injection h
/-- a key -/
def kyN (s : ByteArray) : Lit := .string s.data.toList
theorem kyN_inj {s t : ByteArray} (h : kyN s = kyN t) : s = t := by
  unfold kyN at h
  injection h with h
  exact ByteArray.ext (Array.toList_inj.1 h)
theorem KN : Keyed Try.prog 9 := string_keyed Try.underlying9

/-- block b is a map of at most n names, to the numbers that V says -/
def MapN (w : World) (b n : Nat) (V : ByteArray → Option Int) : Prop :=
  ∃ D : DataW Unit, w.ownsMap Try.prog 9 nv b n D ∧ ∀ s : ByteArray, has D (kyN s) = (V s).isSome ∧ D.atKey (kyN s) (nd 0) = nd ((V s).getD 0)

section
variable {w w' : World} {b n : Nat} {V : ByteArray → Option Int}
theorem MapN.lt (h : MapN w b n V) : b < w.heap.size := by
  obtain ⟨D, h1, _⟩ := h
  exact h1.lt
theorem MapN.kept {row : Option Nat} (h : MapN w b n V) (hg : w.grownBy w' row) (hne : some b ≠ row) : MapN w' b n V := by
  obtain ⟨D, h1, h2⟩ := h
  exact ⟨D, h1.kept hg hne, h2⟩
theorem MapN.ofBlock (h : MapN w b n V) (hb : w'.heap[b]? = w.heap[b]?) : MapN w' b n V := by
  obtain ⟨D, ⟨es, cl, h1, h2⟩, h3⟩ := h
  exact ⟨D, ⟨es, cl, hb.trans h1, h2⟩, h3⟩
theorem MapN.below {B : Nat} (h : MapN w b n V) (hb : Below B w w') (hB : b < B) : MapN w' b n V := h.ofBlock (hb.block b hB)
theorem MapN.ext {V' : ByteArray → Option Int} (h : MapN w b n V) (e : ∀ s, V s = V' s) : MapN w b n V' := by
  rw [show V' = V from funext fun s => (e s).symm]; exact h
theorem MapN.mono {m : Nat} (h : MapN w b n V) (hm : n ≤ m) : MapN w b m V := by
  obtain ⟨D, h1, h2⟩ := h
  exact ⟨D, h1.mono hm, h2⟩
theorem MapN.new (w : World) : MapN (w.alloc (.map #[] 0)) w.heap.size 0 (fun _ => none) :=
  ⟨.map [], World.ownsMap_made w Try.prog 9 nv, fun _ => ⟨rfl, rfl⟩⟩
end
end Go.Proofs.Ytanbbomdidefjaa
