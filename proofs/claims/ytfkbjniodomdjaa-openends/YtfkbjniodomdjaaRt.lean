/- Slices of texts in memory (as Kv has them, for seats without tokens' openers). -/
import Derived.Test.YtfkbjniodomdjaaGm
namespace Go.Proofs.Ytfkbjniodomdjaa
open Go.RowKit

/-- the slice at A holds the texts zs -/
def RdT (w : World) (A : Option Addr) (zs : List ByteArray) : Prop :=
  zs = [] ∨ ∃ b off, A = some ⟨b, off, none⟩ ∧ b < w.heap.size ∧ ∀ (i : Nat) (x : ByteArray), zs[i]? = some x → w.cell? ⟨b, off + i, none⟩ = some (.string x)
theorem RdT.below {w w' : World} {A : Option Addr} {zs : List ByteArray} (h : RdT w A zs) (hb : Below w.heap.size w w') : RdT w' A zs := by
  rcases h with h | ⟨b, off, rfl, hl, h⟩
  · exact .inl h
  · exact .inr ⟨b, off, rfl, Nat.lt_of_lt_of_le hl hb.size, fun i x hi => (hb.cell (p := ⟨b, off + i, none⟩) hl).trans (h i x hi)⟩
theorem RdT.at_ {w : World} {A : Option Addr} {zs : List ByteArray} {i : Nat} {x : ByteArray} (h : RdT w A zs) (hx : zs[i]? = some x) : ∃ b off, A = some ⟨b, off, none⟩ ∧ b < w.heap.size ∧ w.cell? ⟨b, off + i, none⟩ = some (.string x) := by
  rcases h with rfl | ⟨b, off, hA, hb, h⟩
  · simp at hx
  · exact ⟨b, off, hA, hb, h i x hx⟩
end Go.Proofs.Ytfkbjniodomdjaa
