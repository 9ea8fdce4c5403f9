/- The law TokenAttrs, walked. -/
import Derived.Test.YtanbbomdidefjaaKq
namespace Go.Proofs.Ytanbbomdidefjaa
open Go.RowKit Go.Lib
attribute [local go_sem] Oper.semAt_some

theorem rda_new (x : Atr) (W : World) : RdA (W.alloc (.cells #[.string x.1, .string x.2] 39)) (some ⟨W.heap.size, 0, none⟩) [x] := by
  refine .inr ⟨W.heap.size, 0, rfl, by simp, fun i y hi => ?_⟩
  cases i with
  | zero =>
    simp at hi
    subst hi
    exact ⟨by simp, by simp⟩
  | succ i => simp at hi
theorem rda_newN (x : Atr) (W : World) (n : Nat) (hn : n = W.heap.size) : RdA (W.alloc (.cells #[.string x.1, .string x.2] 39)) (some ⟨n, 0, none⟩) [x] := by
  subst hn
  exact rda_new x W
theorem AtI.start (xs : List Atr) (s : ByteArray) (W : World) : AtI xs s W 0 (.slice (some ⟨W.heap.size, 0, none⟩) 0 0) (.slice (some ⟨W.heap.size + 1, 0, none⟩) 0 0) ((W.alloc (.cells #[] 39)).alloc (.cells #[] 39)) := by
  refine ⟨⟨?_, ?_, ?_⟩, ((Below.refl _ W).alloc (Nat.le_refl _) _).alloc (by simp) _⟩
  · have := World.ownsRow_made (base := W.heap.size) (e := 39) (size := 2) W #[] 0 (Nat.le_refl _) (Nat.zero_le _) (by simp)
    simpa [wout, cellsA] using this.alloc _
  · have := World.ownsRow_made (base := W.heap.size) (e := 39) (size := 2) (W.alloc (.cells #[] 39)) #[] 0 (by simp) (Nat.zero_le _) (by simp)
    simpa [once, cellsA] using this
  · intro g e1 e2
    simp [Value.ownBlock] at e1 e2
    omega

end Go.Proofs.Ytanbbomdidefjaa
