/- The law TokenAttrs, walked. -/
import Derived.Test.YtanbbomdidefjaaKt
import Derived.Maps.AppendAt
namespace Go.Proofs.Ytanbbomdidefjaa
open Go.RowKit Go.Lib
attribute [local go_sem] Oper.semAt_some

/-- append of a list that may be nil onto a row of the call's own -/
theorem wpList_append_rda {w : World} {ops : Array Oper} {rest : List Oper} {o : Oper} {a : Act} {Q : Exit → Act → World → Prop} {s x : Operand} (hgd : o.guard = none)
    (ho : o.op = .call { callee := .builtin .append, args := #[s, x], argTypes := #[34, 34] })
    (base : Nat) (v : Value) (n : Nat) (ys : List Atr) (hs : a.eval s = v) (hown : w.ownsRow base 39 2 v n (cellsA ys))
    (A : Option Addr) (m c : Nat) (hx : a.eval x = .slice A m c) (news : List Atr) (hm : news.length = m) (hrd : RdA w A news) (hnone : A = none → c = 0 ∧ news = [])
    (h63 : n + m ≤ 1000000) (hbase : base ≤ w.heap.size)
    (h : ∀ v' w', w'.ownsRow base 39 2 v' (n + m) (cellsA (ys ++ news)) → w.grownBy w' v.ownBlock → (v'.ownBlock = v.ownBlock ∨ v'.ownBlock = some w.heap.size) → wpList Try.prog ops Q rest (a.put o.dst v') w') : wpList Try.prog ops Q (o :: rest) a w := by
  obtain ⟨i0, hi, hz0, hz1, hz2⟩ := info_parts infoAt
  cases A with
  | none =>
    obtain ⟨rfl, rfl⟩ := hnone rfl
    obtain rfl : m = 0 := by simpa using hm.symm
    exact wpList_append_own_none hgd s x 34 ho base 39 i0 2 Try.underlying34 hi v n (cellsA ys) hs hown hx (h v w (by simpa using hown) ⟨rfl, rfl, rfl, Nat.le_refl _, fun _ _ _ => rfl⟩ (.inl rfl))
  | some ad =>
    subst hm
    refine wpList_append_own_at w hgd s x 34 ho base 39 i0 _ 2 32 Try.underlying34 hi hz0 hz1 hz2 rfl (by decide) v n (cellsA ys) hs hown ad news.length c (cellsA news) hx (cellsA_len _) hrd.cells (cellsA_one _) (by unfold maxLen; omega) (by omega) hbase (fun v' w' h1 h2 _ h4 => h v' w' (by rw [cellsA_snoc]; exact h1) h2 h4)

/-- the two rows that the loop makes, apart -/
structure Rws (B : Nat) (r o : Value) (R O : List Atr) (W : World) : Prop where
  rr : W.ownsRow B 39 2 r R.length (cellsA R)
  oo : W.ownsRow B 39 2 o O.length (cellsA O)
  ne : ∀ g, r.ownBlock = some g → o.ownBlock = some g → False
theorem Rws.alloc {B : Nat} {r o : Value} {R O : List Atr} {W : World} (h : Rws B r o R O W) (x : Obj) : Rws B r o R O (W.alloc x) := ⟨h.rr.alloc _, h.oo.alloc _, h.ne⟩
theorem Rws.below {B : Nat} {r o : Value} {R O : List Atr} {W W' : World} (h : Rws B r o R O W) (hb : Below W.heap.size W W') : Rws B r o R O W' := ⟨own_keep h.rr hb, own_keep h.oo hb, h.ne⟩
theorem Rws.growR {B : Nat} {r o r' : Value} {R O R' : List Atr} {W W' : World} (h : Rws B r o R O W) (h1 : W'.ownsRow B 39 2 r' R'.length (cellsA R')) (hg : W.grownBy W' r.ownBlock) (hl : r'.ownBlock = r.ownBlock ∨ r'.ownBlock = some W.heap.size) : Rws B r' o R' O W' := by
  refine ⟨h1, own_far h.oo hg (fun g e1 e2 => h.ne g e2 e1), fun g e1 e2 => ?_⟩
  rcases hl with e | e
  · exact h.ne g (by rw [← e]; exact e1) e2
  · rw [e1] at e
    have := (h.oo.lt g e2).2
    injection e with e
    omega
theorem Rws.growO {B : Nat} {r o o' : Value} {R O O' : List Atr} {W W' : World} (h : Rws B r o R O W) (h1 : W'.ownsRow B 39 2 o' O'.length (cellsA O')) (hg : W.grownBy W' o.ownBlock) (hl : o'.ownBlock = o.ownBlock ∨ o'.ownBlock = some W.heap.size) : Rws B r o' R O' W' := by
  refine ⟨own_far h.rr hg (fun g e1 e2 => h.ne g e1 e2), h1, fun g e1 e2 => ?_⟩
  rcases hl with e | e
  · exact h.ne g e1 (by rw [← e]; exact e2)
  · rw [e2] at e
    have := (h.rr.lt g e1).2
    injection e with e
    omega
/-- the first k of the list, gone through -/
def AtI (xs : List Atr) (s : ByteArray) (w5 : World) (k : Nat) (r o : Value) (wr : World) : Prop :=
  Rws w5.heap.size r o (wout (xs.take k) s) (once (xs.take k)) wr ∧ Below w5.heap.size w5 wr

end Go.Proofs.Ytanbbomdidefjaa
