/- Take: what lies in memory meanwhile; its contract. -/
import Derived.Test.YtodlcfhkiilpgaaJx
import Derived.StillTailTactics
import Derived.Deep.DeepCutAuto
namespace Go.Proofs.Ytodlcfhkiilpgaa
open Go.RowKit Go.Shelf Go.Lib
attribute [local go_sem] Oper.semAt_some

def mkS (M : List (Nat × Int)) : List (Int × Int) := M.map (fun p => ((p.1 : Int), p.2))
theorem mkS_len (M : List (Nat × Int)) : (mkS M).length = M.length := by unfold mkS; simp
/-- both trees, what is to do, what is made -/
structure TkM (b1 D1 : Nat) (v1 : Value) (q1 : Bool) (ns : List Nd) (b2 D2 : Nat) (q2 : Bool) (w : World) (v20 : Value) (ms0 : List Nd) (v2 : Value) (ms : List Nd) (tv : Value) (T : List (Int × Int)) (mv : Value) (M : List (Nat × Int)) (X : World) : Prop where
  d1 : DocM b1 D1 v1 q1 ns X
  d2 : DocM b2 D2 v2 q2 ms X
  td : X.ownsRow w.heap.size 81 2 tv T.length (cellsS T)
  ma : X.ownsRow w.heap.size 81 2 mv (mkS M).length (cellsS (mkS M))
  l1 : ∀ k, DB D1 v1 ns k → k < w.heap.size
  s12 : ∀ k, DB D2 v2 ms k → ¬ DB D1 v1 ns k
  st : ∀ g, tv.ownBlock = some g → mv.ownBlock ≠ some g
  s2 : ∀ k, DB D2 v2 ms k → tv.ownBlock ≠ some k ∧ mv.ownBlock ≠ some k
  s2o : ∀ k, DB D2 v2 ms k → DB D2 v20 ms0 k ∨ w.heap.size ≤ k
  fr : Frm (DB D2 v20 ms0) w X
  bl : b2 ≤ w.heap.size
section
variable {b1 D1 : Nat} {v1 : Value} {q1 : Bool} {ns : List Nd} {b2 D2 : Nat} {q2 : Bool} {w : World} {v20 : Value} {ms0 : List Nd} {v2 : Value} {ms ms' : List Nd} {tv tv' : Value} {T T' : List (Int × Int)} {mv mv' : Value} {M M' : List (Nat × Int)} {X Y : World}
theorem TkM.below (h : TkM b1 D1 v1 q1 ns b2 D2 q2 w v20 ms0 v2 ms tv T mv M X) (hb : Below X.heap.size X Y) : TkM b1 D1 v1 q1 ns b2 D2 q2 w v20 ms0 v2 ms tv T mv M Y :=
  ⟨h.d1.below hb, h.d2.below hb, own_keep h.td hb, own_keep h.ma hb, h.l1, h.s12, h.st, h.s2, h.s2o, h.fr.trans' (Frm.below (S := fun _ => False) hb) (fun _ e => e.elim), h.bl⟩
theorem TkM.adds (h : TkM b1 D1 v1 q1 ns b2 D2 q2 w v20 ms0 v2 ms tv T mv M X) (ha : Adds b2 D2 v2 q2 ms ms' X Y) : ∃ v2', TkM b1 D1 v1 q1 ns b2 D2 q2 w v20 ms0 v2' ms' tv T mv M Y := by
  obtain ⟨v', hd, hf, hn⟩ := ha
  have hz := h.fr.size
  refine ⟨v', h.d1.keep hf (fun k hk e => h.s12 k e hk), hd, hf.own h.td (fun k e hk => (h.s2 k hk).1 e), hf.own h.ma (fun k e hk => (h.s2 k hk).2 e), h.l1, fun k hk => ?_, h.st, fun k hk => ?_, fun k hk => ?_, h.fr.trans' hf h.s2o, h.bl⟩
  · rcases hn k hk with e | e
    · exact h.s12 k e
    · exact fun e2 => by have := h.l1 k e2; omega
  · rcases hn k hk with e | e
    · exact h.s2 k e
    · exact ⟨fun e2 => by have := (h.td.lt k e2).2; omega, fun e2 => by have := (h.ma.lt k e2).2; omega⟩
  · rcases hn k hk with e | e
    · exact h.s2o k e
    · exact .inr (by omega)
theorem TkM.todo (h : TkM b1 D1 v1 q1 ns b2 D2 q2 w v20 ms0 v2 ms tv T mv M X) (hr : Y.ownsRow w.heap.size 81 2 tv' T'.length (cellsS T')) (hf : Frm (fun k => tv.ownBlock = some k) X Y) (hb : tv'.ownBlock = tv.ownBlock ∨ ∃ g, tv'.ownBlock = some g ∧ X.heap.size ≤ g) :
    TkM b1 D1 v1 q1 ns b2 D2 q2 w v20 ms0 v2 ms tv' T' mv M Y := by
  have hz := h.fr.size
  refine ⟨h.d1.keep hf (fun k hk e => by have := h.l1 k hk; have := (h.td.lt k e).1; omega), h.d2.keep hf (fun k hk e => (h.s2 k hk).1 e), hr, hf.own h.ma (fun k e1 e2 => h.st k e2 e1), h.l1, h.s12, fun g e => ?_, fun k hk => ⟨fun e => ?_, (h.s2 k hk).2⟩, h.s2o, h.fr.trans' hf (fun k e => .inr (h.td.lt k e).1), h.bl⟩
  · rcases hb with e2 | ⟨g', e2, h2⟩
    · exact h.st g (e2 ▸ e)
    · rw [e2] at e; cases e
      exact fun e3 => by have := (h.ma.lt g e3).2; omega
  · rcases hb with e2 | ⟨g', e2, h2⟩
    · exact (h.s2 k hk).1 (e2 ▸ e)
    · rw [e2] at e; cases e
      have := (h.d2.in_ k hk).2
      omega
theorem TkM.made (h : TkM b1 D1 v1 q1 ns b2 D2 q2 w v20 ms0 v2 ms tv T mv M X) (hr : Y.ownsRow w.heap.size 81 2 mv' (mkS M').length (cellsS (mkS M'))) (hf : Frm (fun k => mv.ownBlock = some k) X Y) (hb : mv'.ownBlock = mv.ownBlock ∨ ∃ g, mv'.ownBlock = some g ∧ X.heap.size ≤ g) :
    TkM b1 D1 v1 q1 ns b2 D2 q2 w v20 ms0 v2 ms tv T mv' M' Y := by
  have hz := h.fr.size
  refine ⟨h.d1.keep hf (fun k hk e => by have := h.l1 k hk; have := (h.ma.lt k e).1; omega), h.d2.keep hf (fun k hk e => (h.s2 k hk).2 e), hf.own h.td (fun k e1 e2 => h.st k e1 e2), hr, h.l1, h.s12, fun g e1 e => ?_, fun k hk => ⟨(h.s2 k hk).1, fun e => ?_⟩, h.s2o, h.fr.trans' hf (fun k e => .inr (h.ma.lt k e).1), h.bl⟩
  · rcases hb with e2 | ⟨g', e2, h2⟩
    · exact h.st g e1 (e2 ▸ e)
    · rw [e2] at e; cases e
      have := (h.td.lt g e1).2; omega
  · rcases hb with e2 | ⟨g', e2, h2⟩
    · exact (h.s2 k hk).2 (e2 ▸ e)
    · rw [e2] at e; cases e
      have := (h.d2.in_ k hk).2
      omega
theorem own_cutS {w : World} {base c : Nat} {A : Option Addr} {T : List (Int × Int)} {p : Int × Int} (h : w.ownsRow base 81 2 (.slice A (T ++ [p]).length c) (T ++ [p]).length (cellsS (T ++ [p]))) : w.ownsRow base 81 2 (.slice A T.length c) T.length (cellsS T) := by
  refine ⟨by rw [cellsS_len], ?_⟩
  rcases h.2 with ⟨_, h1⟩ | ⟨g, cap, cur, h1, hb, hg, hn, hmx, hcs, htk⟩
  · simp at h1
  · injection h1 with h1 h2 h3
    subst h1 h3
    rw [List.length_append] at hn
    refine .inr ⟨g, c, cur, rfl, hb, hg, by omega, hmx, hcs, ?_⟩
    have := congrArg (List.take (T.length * 2)) htk
    rw [List.take_take, Nat.min_eq_left (by rw [List.length_append]; omega), cellsS_app] at this
    rw [this, ← cellsS_len, List.take_left]
theorem slice_blk (A : Option Addr) (n m c : Nat) : (Value.slice A n c).ownBlock = (Value.slice A m c).ownBlock := by
  cases A <;> rfl
theorem TkM.cut {p : Int × Int} {A : Option Addr} {c : Nat} (h : TkM b1 D1 v1 q1 ns b2 D2 q2 w v20 ms0 v2 ms (.slice A (T ++ [p]).length c) (T ++ [p]) mv M X) : TkM b1 D1 v1 q1 ns b2 D2 q2 w v20 ms0 v2 ms (.slice A T.length c) T mv M X :=
  ⟨h.d1, h.d2, own_cutS h.td, h.ma, h.l1, h.s12, by rw [slice_blk A T.length (T ++ [p]).length c]; exact h.st, by rw [slice_blk A T.length (T ++ [p]).length c]; exact h.s2, h.s2o, h.fr, h.bl⟩
end
/-- how far the copies have come: the elder nodes as they were, the new ones as they should be -/
structure EqM (ms0 N1 ms : List Nd) : Prop where
  len : ms.length = ms0.length + N1.length
  old : ∀ (j : Nat) x, ms0[j]? = some x → ms[j]? = some x
  new : ∀ (q : Nat) z, N1[q]? = some z → ∃ y, ms[ms0.length + q]? = some y ∧ Lk8 y z ∧ y.kids = [] ∧ y.up = -1
theorem EqM.nil (ms0 : List Nd) : EqM ms0 [] ms0 := ⟨by simp, fun _ _ h => h, fun q z h => by simp at h⟩
/-- the nodes that should come by an Add -/
def nwZ (m : Nat) (x : Nd) : List Nd := if tplB x then [{ aloneNd x none 0 with inner := ((m + 1 : Nat) : Int) }, pageNd] else [aloneNd x none 0]
theorem EqM.push {ms0 N1 ms : List Nd} (h : EqM ms0 N1 ms) (x : Nd) (A : Option Addr) (c : Nat) : EqM ms0 (N1 ++ nwZ ms.length x) (ms ++ nwN ms.length x A c) := by
  have hl := h.len
  refine ⟨?_, fun j y hy => ?_, fun q z hz => ?_⟩
  · rw [List.length_append, List.length_append, nw_len, hl]
    unfold nwZ
    split <;> (simp; omega)
  · have := (List.getElem?_eq_some_iff.1 hy).1
    rw [List.getElem?_append_left (by omega)]
    exact h.old j y hy
  · rcases Nat.lt_or_ge q N1.length with hq | hq
    · rw [List.getElem?_append_left hq] at hz
      obtain ⟨y, hy, r⟩ := h.new q z hz
      exact ⟨y, by rw [List.getElem?_append_left (List.getElem?_eq_some_iff.1 hy).1]; exact hy, r⟩
    · rw [List.getElem?_append_right hq] at hz
      have hi : ms0.length + q = ms.length + (q - N1.length) := by omega
      rw [hi, List.getElem?_append_right (by omega), Nat.add_sub_cancel_left]
      generalize q - N1.length = d at hz
      unfold nwZ at hz
      unfold nwN
      cases ht : tplB x with
      | false =>
        rw [ht] at hz
        match d, hz with
        | 0, hz => simp at hz; subst hz; exact ⟨aloneNd x A c, rfl, ⟨rfl, rfl, rfl, rfl, rfl, rfl, rfl, rfl⟩, rfl, rfl⟩
        | d + 1, hz => simp at hz
      | true =>
        rw [ht] at hz
        match d, hz with
        | 0, hz => simp at hz; subst hz; exact ⟨tplNd x A c ms.length, rfl, ⟨rfl, rfl, rfl, rfl, rfl, rfl, rfl, by show (ms.length : Int) + 1 = _; rw [hl]⟩, rfl, rfl⟩
        | 1, hz => simp at hz; subst hz; exact ⟨pageNd, rfl, ⟨rfl, rfl, rfl, rfl, rfl, rfl, rfl, rfl⟩, rfl, rfl⟩
        | d + 2, hz => simp at hz
theorem Tk.len {ns : List Nd} {m : Nat} {I : List (Int × Int)} {L : List (Nat × Int)} {N : List Nd} (h : Tk ns m I L N) : I.length ≤ L.length ∧ L.length ≤ N.length := by
  induction h with
  | nil => exact ⟨Nat.le_refl _, Nat.le_refl _⟩
  | plain _ _ _ _ ih => rw [List.length_append] at ih; simp; omega
  | tpl _ _ _ _ ih => rw [List.length_append, List.length_append] at ih; simp; omega
end Go.Proofs.Ytodlcfhkiilpgaa
