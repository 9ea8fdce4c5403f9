/- Words: all texts beneath a node. -/
import Derived.Test.YtfkbjniodomdjaaHd
import Derived.Test.YtfkbjniodomdjaaHf
namespace Go.Proofs.Ytfkbjniodomdjaa
open Go.RowKit Go.Shelf Go.Lib
attribute [local go_sem] Oper.semAt_some

/-- a node's text, if it is one -/
def txtN (ns : List Nd) (n : Int) : List UInt8 := if atN ns n Nd.kind 0 == 3 then (atN ns n Nd.data ⟨#[]⟩).data.toList else []
def txts (ns : List Nd) (o : List (Int × Nat)) : List UInt8 := o.flatMap (fun x => txtN ns x.1)
/-- what the law of the range keeps: the boxes, the tree, the builder -/
structure WI (w : World) (D : Nat) (base : Nat) (v : Value) (qk : Bool) (ns : List Nd) (l : List UInt8) (W : World) : Prop where
  bw : Below w.heap.size w W
  bd : W.heap[w.heap.size]? = some (.cells #[.pointer (some ⟨D, 0, none⟩)] 24 (0, 0))
  bd2 : W.heap[w.heap.size + 2]? = some (.cells #[.pointer (some ⟨D, 0, none⟩)] 24 (0, 0))
  doc : DocM base D v qk ns W
  dlt : ∀ k, DB D v ns k → k < w.heap.size
  bld : ∃ vb, Bld (w.heap.size + 1) (w.heap.size + 9) vb (Lib.byteCells l) W
section
variable {w : World} {D base : Nat} {v : Value} {qk : Bool} {ns : List Nd} {l : List UInt8} {W W' : World}
/-- what turns lies beyond, and is not the builder's row -/
theorem WI.keep {S : Nat → Prop} (h : WI w D base v qk ns l W) (hf : Frm S W W') (hS : ∀ k, S k → w.heap.size + 4 ≤ k) (hr : ∀ k vb, Bld (w.heap.size + 1) (w.heap.size + 9) vb (Lib.byteCells l) W → vb.ownBlock = some k → ¬ S k) : WI w D base v qk ns l W' := by
  obtain ⟨vb, hb⟩ := h.bld
  have hs := h.bw.size
  exact ⟨h.bw.trans (hf.toBelow hs (fun k hk => by have := hS k hk; omega)), (hf.block _ (Array.getElem?_eq_some_iff.1 h.bd).1 (fun e => by have := hS _ e; omega)).trans h.bd, (hf.block _ (Array.getElem?_eq_some_iff.1 h.bd2).1 (fun e => by have := hS _ e; omega)).trans h.bd2, h.doc.keep hf (fun k hk e => by have := h.dlt k hk; have := hS k e; omega), h.dlt, vb, hb.keep hf (fun e => by have := hS _ e; omega) (fun k e => hr k vb hb e)⟩
theorem WI.own {f : List (Int × Nat) → List UInt8} {B : Nat} (hB : B = w.heap.size + 4) : OwnFrom B (fun s W => WI w D base v qk ns (f s) W) := by
  rintro s X Y row h hg hr
  refine h.keep (S := fun k => row = some k) (Frm.grown hg (fun k e => e)) (fun k e => by have := (hr k e).1; omega) (fun k vb hb e1 e2 => ?_)
  obtain ⟨_, o, ho, hc⟩ := hr k e2
  rcases hb.2.1.2 with ⟨h1, _⟩ | ⟨g, cap, cur, h1, _, hg2, _⟩
  · rw [h1] at e1; cases e1
  · rw [h1] at e1
    simp [Value.ownBlock] at e1
    subst e1
    rw [hg2] at ho
    cases ho
    cases hc
theorem WI.abides {f : List (Int × Nat) → List UInt8} {B : Nat} (hB : B = w.heap.size + 6) : AbidesE B 3 (fun s W => WI w D base v qk ns (f s) W) := by
  rintro s X Y row h hg hr
  refine h.keep (S := fun k => row = some k) (Frm.grown hg (fun k e => e)) (fun k e => by have := (hr k e).1; omega) (fun k vb hb e1 e2 => ?_)
  have := (hr k e2).2
  have := (hb.2.1.lt k e1).1
  omega
/-- the builder has grown -/
theorem WI.wrote {l' : List UInt8} {vb vb' : Value} (h : WI w D base v qk ns l W) (hb : Bld (w.heap.size + 1) (w.heap.size + 9) vb (Lib.byteCells l) W) (hb' : Bld (w.heap.size + 1) (w.heap.size + 9) vb' (Lib.byteCells l') W') (hf : Frm (fun k => k = w.heap.size + 1 ∨ vb.ownBlock = some k) W W') :
    WI w D base v qk ns l' W' ∧ KeepsOthers W W' ∧ KpW (w.heap.size + 2) base D v qk ns (w.heap.size + 6) W W' := by
  have hs := h.bw.size
  have hr : ∀ k, (k = w.heap.size + 1 ∨ vb.ownBlock = some k) → k = w.heap.size + 1 ∨ w.heap.size + 9 ≤ k := fun k e => by
    rcases e with e | e
    · exact .inl e
    · exact .inr (hb.2.1.lt k e).1
  have hdoc : DocM base D v qk ns W → DocM base D v qk ns W' := fun hd => hd.keep hf (fun k hk e => by have := h.dlt k hk; rcases hr k e with e | e <;> omega)
  have hbd2 : W'.heap[w.heap.size + 2]? = W.heap[w.heap.size + 2]? := hf.block _ (Array.getElem?_eq_some_iff.1 h.bd2).1 (fun e => by rcases hr _ e with e | e <;> omega)
  refine ⟨⟨h.bw.trans (hf.toBelow hs (fun k hk => by rcases hr k hk with e | e <;> omega)), (hf.block _ (Array.getElem?_eq_some_iff.1 h.bd).1 (fun e => by rcases hr _ e with e | e <;> omega)).trans h.bd, hbd2.trans h.bd2, hdoc h.doc, h.dlt, vb', hb'⟩, ⟨hf.size, fun k o hk ho => ?_⟩, hf.size, fun k h1 h2 h3 => hf.block k h3 (fun e => by rcases hr k e with e | e <;> omega), fun hd => ⟨hbd2.trans hd.bd, hdoc hd.doc⟩⟩
  refine (hf.block k (Array.getElem?_eq_some_iff.1 hk).1 (fun e => ?_)).trans hk
  rcases e with e | e
  · obtain ⟨⟨p, _, h1⟩, _⟩ := hb
    rw [e, h1] at hk
    cases hk
    cases ho
  · rcases hb.2.1.2 with ⟨h1, _⟩ | ⟨g, cap, cur, h1, _, hg2, _⟩
    · rw [h1] at e; cases e
    · rw [h1] at e
      simp [Value.ownBlock] at e
      subst e
      rw [hg2] at hk
      cases hk
      cases ho
end
end Go.Proofs.Ytfkbjniodomdjaa
