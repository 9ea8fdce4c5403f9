/- A tree that gets nodes more, plain. -/
import Derived.Test.YtfkbjniodomdjaaEd
namespace Go.Proofs.Ytfkbjniodomdjaa
open Go.RowKit Go.Lib

section
variable {base D : Nat} {v v' : Value} {qk : Bool} {ns xs : List Nd} {W W' : World}
/-- a row's block and a kid's, an attribute's are unlike -/
theorem DocM.row_ne (h : DocM base D v qk ns W) {i : Nat} {x : Nd} (hx : ns[i]? = some x) (k : Nat) : (x.kv.ownBlock = some k ∨ x.av.ownBlock = some k) → ¬ (k = D ∨ v.ownBlock = some k) := by
  rintro (e | e) (rfl | e2)
  · exact row_neD (h.kids i x hx) h.hd (by decide) e
  · exact rows_neN (h.kids i x hx) h.row (by decide) k e e2
  · exact row_neD (h.attrs i x hx) h.hd (by decide) e
  · exact rows_neN (h.attrs i x hx) h.row (by decide) k e e2
theorem DocM.row_neD (h : DocM base D v qk ns W) : v.ownBlock ≠ some D := Ytfkbjniodomdjaa.row_neD h.row h.hd (by decide)
theorem DocM.push (h : DocM base D v qk ns W) (hf : Frm (fun k => k = D ∨ v.ownBlock = some k) W W') (hd : W'.heap[D]? = some (.cells #[v', .bool qk] 49 (0, 0))) (hr : W'.ownsRow base 53 10 v' (ns.length + xs.length) (cellsN ns ++ cellsN xs))
    (hx : ∀ x ∈ xs, x.kv = .slice none 0 0 ∧ x.kids = [] ∧ W'.ownsRow base 57 2 x.av x.attrs.length (cellsA x.attrs)) : DocM base D v' qk (ns ++ xs) W' := by
  have hn : ∀ (i : Nat) (x : Nd), (ns ++ xs)[i]? = some x → ns[i]? = some x ∨ (ns.length ≤ i ∧ x ∈ xs) := by
    intro i x hi
    rcases Nat.lt_or_ge i ns.length with hlt | hge
    · rw [List.getElem?_append_left hlt] at hi; exact .inl hi
    · rw [List.getElem?_append_right hge] at hi; exact .inr ⟨hge, List.mem_of_getElem? hi⟩
  refine ⟨hd, by rw [cellsN_snoc, List.length_append]; exact hr, ?_, ?_, ?_, h.ge⟩
  · intro i x hi
    rcases hn i x hi with h1 | ⟨_, h1⟩
    · exact hf.own (h.kids i x h1) (fun k e => h.row_ne h1 k (.inl e))
    · rw [(hx x h1).1, (hx x h1).2.1]; exact World.ownsRow_nil _ _ _ _
  · intro i x hi
    rcases hn i x hi with h1 | ⟨_, h1⟩
    · exact hf.own (h.attrs i x h1) (fun k e => h.row_ne h1 k (.inr e))
    · exact (hx x h1).2.2
  · intro i j x y g hi hj e1 e2
    rcases hn i x hi with h1 | ⟨_, h1⟩
    · rcases hn j y hj with h2 | ⟨_, h2⟩
      · exact h.apart i j x y g h1 h2 e1 e2
      · rw [(hx y h2).1] at e2; cases e2
    · rw [(hx x h1).1] at e1; cases e1
/-- what a call gives that adds nodes: all else lies as it lay -/
def Adds (base D : Nat) (v : Value) (qk : Bool) (ns ns' : List Nd) (W W' : World) : Prop :=
  ∃ v', DocM base D v' qk ns' W' ∧ Frm (DB D v ns) W W' ∧ ∀ k, DB D v' ns' k → DB D v ns k ∨ W.heap.size ≤ k
theorem DB.push {W : World} (hv : v'.ownBlock = v.ownBlock ∨ ∃ g, v'.ownBlock = some g ∧ W.heap.size ≤ g) (hx : ∀ x ∈ xs, x.kv = .slice none 0 0 ∧ ∀ k, x.av.ownBlock = some k → W.heap.size ≤ k) : ∀ k, DB D v' (ns ++ xs) k → DB D v ns k ∨ W.heap.size ≤ k := by
  rintro k (rfl | e | ⟨i, x, hi, e⟩)
  · exact .inl (.inl rfl)
  · rcases hv with h | ⟨g, h, hg⟩
    · exact .inl (.inr (.inl (h ▸ e)))
    · rw [h] at e; cases e; exact .inr hg
  · rcases Nat.lt_or_ge i ns.length with hlt | hge
    · rw [List.getElem?_append_left hlt] at hi; exact .inl (.inr (.inr ⟨i, x, hi, e⟩))
    · rw [List.getElem?_append_right hge] at hi
      have hm := hx x (List.mem_of_getElem? hi)
      rcases e with e | e
      · rw [hm.1] at e; cases e
      · exact .inr (hm.2 k e)
end
end Go.Proofs.Ytfkbjniodomdjaa
