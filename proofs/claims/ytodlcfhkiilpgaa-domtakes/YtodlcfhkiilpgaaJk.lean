/- Ranges behind which only one box has turned. -/
import Derived.Test.YtodlcfhkiilpgaaJh
namespace Go.Proofs.Ytodlcfhkiilpgaa
open Go.RowKit Go.Shelf Go.Lib
theorem KpF.tr {Bd Bm base D : Nat} {v : Value} {qk : Bool} {ns : List Nd} {name : ByteArray} {B : Nat} {X Y Z : World} (h1 : KpF Bd Bm base D v qk ns name B X Y) (h2 : KpF Bd Bm base D v qk ns name B Y Z) : KpF Bd Bm base D v qk ns name B X Z :=
  ⟨Nat.le_trans h1.1 h2.1, fun k a1 a2 a3 => (h2.2.1 k a1 a2 (Nat.lt_of_lt_of_le a3 h1.1)).trans (h1.2.1 k a1 a2 a3), fun hs => h2.2.2 (h1.2.2 hs)⟩
theorem KpF.put {Bd Bm base D : Nat} {v : Value} {qk : Bool} {ns : List Nd} {name : ByteArray} (B : Nat) (W : World) (l : Nat) (o o' : Obj) (hlB : l < B) (hlo : W.heap[l]? = some o) (hoc : o.isCells = false) : KpF Bd Bm base D v qk ns name B W (W.putObj l o') :=
  ⟨by simp, fun k a1 a2 a3 => World.putObj_heap_other (by omega), fun hs => hs.keep (S := fun k => k = l) (Frm.grown (grownBy_putObj' W l o') (fun k e => by cases e; rfl)) (fun e => by
      have := hs.bd
      rw [e, hlo] at this
      cases this
      cases hoc) (fun e => by
      have := hs.bm
      rw [e, hlo] at this
      cases this
      cases hoc) (fun k hk e => by
      subst e
      obtain ⟨cur, t, h2⟩ := hs.doc.isCells k hk
      rw [hlo] at h2
      cases h2
      cases hoc)⟩
/-- only one box and what is new has turned: so it stays when more is made, or when that box turns -/
def SB (b n : Nat) (k : Nat) : Prop := k = b ∨ n ≤ k
theorem sb_grow {b n : Nat} {Z W W' : World} {x : Obj} {row : Option Nat} (h1 : Frm (SB b n) Z W) (h2 : W.heap[b]? = some x) (hb : b < n) (hg : W.grownBy W' row) (hr : ∀ r, row = some r → n ≤ r) : Frm (SB b n) Z W' ∧ W'.heap[b]? = some x := by
  have hf : Frm (fun k => n ≤ k) W W' := Frm.grown hg (fun k e => hr k e)
  exact ⟨h1.trans (hf.mono (fun k e => .inr e)), (hf.block b (Array.getElem?_eq_some_iff.1 h2).1 (by omega)).trans h2⟩
theorem sb_set {b n : Nat} {Z W : World} {x : Value} {u : Value} {t : TypeId} (h1 : Frm (SB b n) Z W) (h2 : W.heap[b]? = some (.cells #[x] t (0, 0))) : Frm (SB b n) Z (W.setCell ⟨b, 0, none⟩ u) ∧ (W.setCell ⟨b, 0, none⟩ u).heap[b]? = some (.cells #[u] t (0, 0)) ∧ ∀ k, k ≠ b → k < W.heap.size → (W.setCell ⟨b, 0, none⟩ u).heap[k]? = W.heap[k]? := by
  have hf : Frm (fun k => k = b) W (W.setCell ⟨b, 0, none⟩ u) := Frm.set _ rfl
  exact ⟨h1.trans (hf.mono (fun k e => .inl e)), heap_setCell_same _ _ 0 _ _ _ h2, fun k hk hl => hf.block k hl hk⟩
theorem pre_at1 {o pre : List Int} {k : Int} (h : (pre ++ [k]) <+: o) : pre.length < o.length ∧ o[pre.length]? = some k := by
  obtain ⟨t, rfl⟩ := h
  exact ⟨by simp, by simp⟩
end Go.Proofs.Ytodlcfhkiilpgaa
