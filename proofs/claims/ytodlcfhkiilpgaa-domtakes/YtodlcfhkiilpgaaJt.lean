/- The law DomSame. -/
import Derived.Test.YtodlcfhkiilpgaaJu
import Derived.Deep.DeepCutAuto
import Derived.Deep.CutBlock
import Derived.BigRegion
import Derived.Maps.AppendAt
namespace Go.Proofs.Ytodlcfhkiilpgaa
open Go.RowKit Go.Shelf Go.Lib
attribute [local go_sem] Oper.semAt_some

/-- append of a list that may be nil onto a row of the call's own -/
theorem wpList_append_rda {w : World} {ops : Array Oper} {rest : List Oper} {o : Oper} {a : Act} {Q : Exit → Act → World → Prop} {s x : Operand} (hgd : o.guard = none)
    (ho : o.op = .call { callee := .builtin .append, args := #[s, x], argTypes := #[26, 26] })
    (base : Nat) (v : Value) (n : Nat) (ys : List Atr) (hs : a.eval s = v) (hown : w.ownsRow base 54 2 v n (cellsA ys))
    (A : Option Addr) (m c : Nat) (hx : a.eval x = .slice A m c) (news : List Atr) (hm : news.length = m) (hrd : RdA w A news) (hnone : A = none → c = 0 ∧ news = [])
    (h63 : n + m ≤ 1000000) (hbase : base ≤ w.heap.size)
    (h : ∀ v' w', w'.ownsRow base 54 2 v' (n + m) (cellsA (ys ++ news)) → w.grownBy w' v.ownBlock → (v'.ownBlock = v.ownBlock ∨ v'.ownBlock = some w.heap.size) → wpList Try.prog ops Q rest (a.put o.dst v') w') : wpList Try.prog ops Q (o :: rest) a w := by
  obtain ⟨i0, hi, hz0, hz1, hz2⟩ := info_parts infoAt
  cases A with
  | none =>
    obtain ⟨rfl, rfl⟩ := hnone rfl
    obtain rfl : m = 0 := by simpa using hm.symm
    exact wpList_append_own_none hgd s x 26 ho base 54 i0 2 Try.underlying26 hi v n (cellsA ys) hs hown hx (h v w (by simpa using hown) ⟨rfl, rfl, rfl, Nat.le_refl _, fun _ _ _ => rfl⟩ (.inl rfl))
  | some ad =>
    subst hm
    refine wpList_append_own_at w hgd s x 26 ho base 54 i0 _ 2 32 Try.underlying26 hi hz0 hz1 hz2 rfl (by decide) v n (cellsA ys) hs hown ad news.length c (cellsA news) hx (cellsA_len _) hrd.cells (cellsA_one _) (by unfold maxLen; omega) (by omega) hbase (fun v' w' h1 h2 _ h4 => h v' w' (by rw [cellsA_snoc]; exact h1) h2 h4)

theorem and3 (x : Int) : 0 ≤ bits .and .i64 x 7 ∧ bits .and .i64 x 7 ≤ 7 := by
  have h1 : (BitVec.ofInt 64 x &&& BitVec.ofInt 64 7).toNat ≤ 7 := by
    rw [BitVec.toNat_and]
    exact Nat.le_trans Nat.and_le_right (by decide)
  have h2 : bits .and .i64 x 7 = IntKind.i64.wrap ((BitVec.ofInt 64 x &&& BitVec.ofInt 64 7).toNat : Int) := rfl
  rw [h2]
  generalize (BitVec.ofInt 64 x &&& BitVec.ofInt 64 7).toNat = y at h1
  simp [IntKind.wrap, IntKind.bits, IntKind.signed]
  omega
/-- a node lies in a block of its own -/
def NdB (W : World) (b : Nat) (T : Nd) : Prop := W.heap[b]? = some (.cells T.cs.toArray 29 (0, 0))
theorem NdB.lt {W : World} {b : Nat} {T : Nd} (h : NdB W b T) : b < W.heap.size := (Array.getElem?_eq_some_iff.1 h).1
theorem NdB.frm {S : Nat → Prop} {W W' : World} {b : Nat} {T : Nd} (h : NdB W b T) (hf : Frm S W W') (hS : ¬ S b) : NdB W' b T := (hf.block b h.lt hS).trans h
theorem NdB.below {W W' : World} {b : Nat} {T : Nd} (h : NdB W b T) (hb : Below W.heap.size W W') : NdB W' b T := (hb.block b h.lt).trans h
theorem NdB.cells {W : World} {b : Nat} {T : Nd} (h : NdB W b T) : W.cell? ⟨b, 0, none⟩ = some (.int .i64 T.kind) ∧ W.cell? ⟨b, 1, none⟩ = some (.int .i64 T.space) ∧ W.cell? ⟨b, 2, none⟩ = some (.string T.name) ∧ W.cell? ⟨b, 3, none⟩ = some (.string T.data) ∧ W.cell? ⟨b, 4, none⟩ = some (.slice T.aA T.attrs.length T.ac) ∧ W.cell? ⟨b, 5, none⟩ = some (.string T.pub) ∧ W.cell? ⟨b, 6, none⟩ = some (.string T.sys) ∧ W.cell? ⟨b, 7, none⟩ = some (.int .i64 T.up) ∧ W.cell? ⟨b, 8, none⟩ = some T.kv ∧ W.cell? ⟨b, 9, none⟩ = some (.int .i64 T.inner) := by
  refine ⟨?_, ?_, ?_, ?_, ?_, ?_, ?_, ?_, ?_, ?_⟩ <;> (rw [cell_of_row W b _ _ _ _ h]; rfl)
theorem NdB.fz {W : World} {b : Nat} {T : Nd} (h : NdB W b T) (j : Nat) : W.frozen? ⟨b, j, none⟩ = false := by
  unfold NdB at h
  simp [World.frozen?, h]
theorem NdB.set {W : World} {b j : Nat} {T U : Nd} {u : Value} (h : NdB W b T) (hu : T.cs.toArray.setIfInBounds j u = U.cs.toArray) : NdB (W.setCell ⟨b, j, none⟩ u) b U := by
  unfold NdB at h ⊢
  have := heap_setCell_same W b j _ _ u h
  rw [hu] at this
  exact this
theorem NdB.far {W : World} {b : Nat} {T : Nd} {p : Addr} (h : NdB W b T) (hp : b ≠ p.block) (u : Value) : NdB (W.setCell p u) b T := (Below.heap_setCell W p u b hp).trans h
/-- both nodes, the second one's own attributes, both trees -/
structure SL (w : World) (Bb : Nat) (T U : Nd) (Da : Nat) (va : Value) (xs : List Nd) (b2 Db : Nat) (vb : Value) (ys : List Nd) (W : World) : Prop where
  ta : NdB W w.heap.size T
  tb : NdB W Bb U
  ho : W.ownsRow (Bb + 1) 54 2 U.av U.attrs.length (cellsA U.attrs)
  da : DocM w.heap.size Da va false xs W
  db : DocM b2 Db vb false ys W
  dis : ∀ k, DB Db vb ys k → k ≠ w.heap.size ∧ k ≠ Bb ∧ U.av.ownBlock ≠ some k ∧ ¬ DB Da va xs k
  daT : ∀ k, DB Da va xs k → k ≠ w.heap.size ∧ k ≠ Bb ∧ U.av.ownBlock ≠ some k
  bw : Below w.heap.size w W
  lt : w.heap.size < Bb
  b2l : b2 ≤ W.heap.size ∧ w.heap.size ≤ b2
section
variable {w : World} {Bb : Nat} {T U : Nd} {Da : Nat} {va : Value} {xs : List Nd} {b2 Db : Nat} {vb : Value} {ys ys' : List Nd} {W W' : World}
theorem SL.below (h : SL w Bb T U Da va xs b2 Db vb ys W) (hb : Below W.heap.size W W') : SL w Bb T U Da va xs b2 Db vb ys W' :=
  ⟨h.ta.below hb, h.tb.below hb, own_keep h.ho hb, h.da.below hb, h.db.below hb, h.dis, h.daT, h.bw.trans (hb.mono h.bw.size), h.lt, Nat.le_trans h.b2l.1 hb.size, h.b2l.2⟩
theorem SL.adds (h : SL w Bb T U Da va xs b2 Db vb ys W) (ha : Adds b2 Db vb false ys ys' W W') : ∃ vb', SL w Bb T U Da va xs b2 Db vb' ys' W' := by
  obtain ⟨v', hd, hf, hn⟩ := ha
  have hho : ∀ k, U.av.ownBlock = some k → k < W.heap.size := fun k e => (h.ho.lt k e).2
  refine ⟨v', h.ta.frm hf (fun e => (h.dis _ e).1 rfl), h.tb.frm hf (fun e => (h.dis _ e).2.1 rfl), hf.own h.ho (fun k e hk => (h.dis _ hk).2.2.1 e), h.da.keep hf (fun k hk e => (h.dis _ e).2.2.2 hk), hd, fun k hk => ?_, h.daT, h.bw.trans (hf.toBelow h.bw.size (fun k hk => ?_)), h.lt, Nat.le_trans h.b2l.1 hf.size, h.b2l.2⟩
  · rcases hn k hk with h1 | h1
    · exact h.dis k h1
    · have h2 := h.ta.lt
      have h3 := h.tb.lt
      exact ⟨by omega, by omega, fun e => by have := hho k e; omega, fun e => by have := (h.da.in_ k e).2; omega⟩
  · have := (h.db.in_ k hk).1
    have := h.b2l.2
    omega
theorem SL.set {U' : Nd} (h : SL w Bb T U Da va xs b2 Db vb ys W) (j : Nat) (u : Value) (hu : U.cs.toArray.setIfInBounds j u = U'.cs.toArray) (hA : U'.aA = U.aA) (hx : U'.attrs = U.attrs) (hc : U'.ac = U.ac) : SL w Bb T U' Da va xs b2 Db vb ys (W.setCell ⟨Bb, j, none⟩ u) := by
  have hf : Frm (fun k => k = Bb) W (W.setCell ⟨Bb, j, none⟩ u) := Frm.set _ rfl
  have hav : U'.av = U.av := by unfold Nd.av; rw [hA, hx, hc]
  refine ⟨h.ta.frm hf (by have := h.lt; omega), h.tb.set hu, ?_, h.da.keep hf (fun k hk e => (h.daT k hk).2.1 e), h.db.keep hf (fun k hk e => (h.dis k hk).2.1 e), by rw [hav]; exact h.dis, by rw [hav]; exact h.daT, h.bw.trans (hf.toBelow h.bw.size (fun k e => by have := h.lt; omega)), h.lt, by rw [show (W.setCell ⟨Bb, j, none⟩ u).heap.size = W.heap.size by simp [World.setCell]]; exact h.b2l⟩
  rw [hav, hx]
  exact hf.own h.ho (fun k e1 e2 => by have := (h.ho.lt k e1).1; omega)
theorem SL.rd (h : SL w Bb T U Da va xs b2 Db vb ys W) : RdA W U.aA U.attrs ∧ (U.aA = none → U.attrs = []) := by
  obtain ⟨A, cap, e, _, _, _, hr⟩ := RdA.own h.ho
  unfold Nd.av at e
  injection e with e1 e2 e3
  rw [e1]
  refine ⟨hr, fun hn => ?_⟩
  rcases h.ho.2 with ⟨_, h0⟩ | ⟨g, cap, cur, h1, _⟩
  · exact List.eq_nil_of_length_eq_zero h0
  · unfold Nd.av at h1
    injection h1 with h1
    rw [h1] at e1
    rw [hn] at e1
    cases e1
theorem SL.same (h : SL w Bb T U Da va xs b2 Db vb ys W) (hat : ∀ x ∈ xs, x.attrs.length ≤ 1000000 ∧ x.kids.length ≤ 1000000) (hl : xs.length ≤ 1000000) (m n : Int) (b : Bool) (l : Int) (hs : Sm xs ys xs.length [m] [n] b l) :
    Calls Try.prog 24 #[.pointer (some ⟨Da, 0, none⟩), .int .i64 m, .pointer (some ⟨Db, 0, none⟩), .int .i64 n] W fun e W' => e = .returned (.bool b) ∧ SL w Bb T U Da va xs b2 Db vb ys W' :=
  (Same_any m n b l W h.da h.db hat hl hs).mono fun _ _ ⟨he, hb⟩ => ⟨he, h.below hb⟩
end
theorem SL.addA {w : World} {Bb : Nat} {T U : Nd} {Da : Nat} {va : Value} {xs xs' : List Nd} {b2 Db : Nat} {vb : Value} {ys : List Nd} {W W' : World} (h : SL w Bb T U Da va xs b2 Db vb ys W) (ha : Adds w.heap.size Da va false xs xs' W W') : ∃ va', SL w Bb T U Da va' xs' b2 Db vb ys W' := by
  obtain ⟨v', hd, hf, hn⟩ := ha
  have hho : ∀ k, U.av.ownBlock = some k → k < W.heap.size := fun k e => (h.ho.lt k e).2
  have h2 := h.ta.lt
  have h3 := h.tb.lt
  refine ⟨v', h.ta.frm hf (fun e => (h.daT _ e).1 rfl), h.tb.frm hf (fun e => (h.daT _ e).2.1 rfl), hf.own h.ho (fun k e hk => (h.daT _ hk).2.2 e), hd, h.db.keep hf (fun k hk e => (h.dis k hk).2.2.2 e), fun k hk => ?_, fun k hk => ?_, h.bw.trans (hf.toBelow h.bw.size (fun k hk => (h.da.in_ k hk).1)), h.lt, Nat.le_trans h.b2l.1 hf.size, h.b2l.2⟩
  · obtain ⟨p1, p2, p3, p4⟩ := h.dis k hk
    refine ⟨p1, p2, p3, fun e => ?_⟩
    rcases hn k e with h1 | h1
    · exact p4 h1
    · have := (h.db.in_ k hk).2
      omega
  · rcases hn k hk with h1 | h1
    · exact h.daT k h1
    · exact ⟨by omega, by omega, fun e => by have := hho k e; omega⟩
theorem SL.attr {w : World} {Bb : Nat} {T U U' : Nd} {Da : Nat} {va : Value} {xs : List Nd} {b2 Db : Nat} {vb : Value} {ys : List Nd} {W W' : World} (h : SL w Bb T U Da va xs b2 Db vb ys W) (o : Obj) (hg : (W.alloc o).grownBy W' U.av.ownBlock) (ho' : W'.ownsRow (Bb + 1) 54 2 U'.av U'.attrs.length (cellsA U'.attrs))
    (hblk : U'.av.ownBlock = U.av.ownBlock ∨ U'.av.ownBlock = some (W.alloc o).heap.size) (hcs : U.cs.toArray.setIfInBounds 4 U'.av = U'.cs.toArray) : SL w Bb T U' Da va xs b2 Db vb ys (W'.setCell ⟨Bb, 4, none⟩ U'.av) := by
  have hUl : ∀ k, U.av.ownBlock = some k → Bb + 1 ≤ k := fun k e => (h.ho.lt k e).1
  have hUl' : ∀ k, U'.av.ownBlock = some k → Bb + 1 ≤ k := fun k e => (ho'.lt k e).1
  have h1 : Frm (fun k => U.av.ownBlock = some k) W W' := (Frm.alloc _ W o).trans (Frm.grown hg (fun k e => e))
  have h2 : Frm (fun k => k = Bb) W' (W'.setCell ⟨Bb, 4, none⟩ U'.av) := Frm.set _ rfl
  have hf : Frm (fun k => k = Bb ∨ U.av.ownBlock = some k) W (W'.setCell ⟨Bb, 4, none⟩ U'.av) := (h1.mono (fun k e => .inr e)).trans (h2.mono (fun k e => .inl e))
  have hlt := h.lt
  have hsz := h.tb.lt
  have hnew : ∀ k, U'.av.ownBlock = some k → U.av.ownBlock = some k ∨ W.heap.size < k := fun k e => by
    rcases hblk with e2 | e2
    · exact .inl (e2 ▸ e)
    · rw [e2] at e
      injection e with e
      rw [World.size_alloc] at e
      exact .inr (by omega)
  refine ⟨h.ta.frm hf (fun e => by rcases e with e | e; omega; have := hUl _ e; omega), ?_, ?_, h.da.keep hf (fun k hk e => by rcases e with e | e; exact (h.daT k hk).2.1 e; exact (h.daT k hk).2.2 e), h.db.keep hf (fun k hk e => by rcases e with e | e; exact (h.dis k hk).2.1 e; exact (h.dis k hk).2.2.1 e), fun k hk => ?_, fun k hk => ?_, h.bw.trans (hf.toBelow h.bw.size (fun k e => by rcases e with e | e; omega; have := hUl _ e; omega)), h.lt, ⟨Nat.le_trans h.b2l.1 hf.size, h.b2l.2⟩⟩
  · have := (h.tb.frm h1 (fun e => by have := hUl _ e; omega)).set (j := 4) (u := U'.av) hcs
    exact this
  · exact h2.own ho' (fun k e1 e2 => by have := hUl' k e1; omega)
  · obtain ⟨p1, p2, p3, p4⟩ := h.dis k hk
    exact ⟨p1, p2, fun e => by rcases hnew k e with e2 | e2; exact p3 e2; have := (h.db.in_ k hk).2; omega, p4⟩
  · obtain ⟨p1, p2, p3⟩ := h.daT k hk
    exact ⟨p1, p2, fun e => by rcases hnew k e with e2 | e2; exact p3 e2; have := (h.da.in_ k hk).2; omega⟩
theorem wrap_ne (k : Int) : k ≠ wrap64 (k + 1) := by
  unfold wrap64
  omega
theorem catx_ne (s : ByteArray) : s ≠ s ++ (⟨#[120]⟩ : ByteArray) := by
  intro h
  have := congrArg ByteArray.size h
  rw [ByteArray.size_append] at this
  have h2 : (⟨#[120]⟩ : ByteArray).size = 1 := rfl
  omega
theorem catx_fit {s : ByteArray} (h : s.size ≤ reachBytes) : s.size + (⟨#[120]⟩ : ByteArray).size ≤ 9223372036854775807 := by
  have h2 : (⟨#[120]⟩ : ByteArray).size = 1 := rfl
  unfold reachBytes at h
  omega
set_option maxHeartbeats 8000000 in
set_option maxRecDepth 100000 in
theorem domSame_law (kind space : Int) (name data : ByteArray) (sA : Option Addr) (sn sc : Nat) (pub sys : ByteArray) (up : Int) (kA : Option Addr) (kn kc : Nat) (inner : Int) (A : Option Addr) (xs : List Atr) (cap : Nat) (which : Int) (w : World) (h : RdA w A xs) (hmx : xs.length ≤ maxLen) (hA : A = none → cap = 0 ∧ xs = [])
    (hsz : name.size ≤ reachBytes ∧ data.size ≤ reachBytes ∧ pub.size ≤ reachBytes ∧ sys.size ≤ reachBytes) :
    Calls Try.prog 6 #[.agg #[.int .i64 kind, .int .i64 space, .string name, .string data, .slice sA sn sc, .string pub, .string sys, .int .i64 up, .slice kA kn kc, .int .i64 inner], .slice A xs.length cap, .int .i64 which] w fun e w' => e = .returned (.bool true) ∧ Below w.heap.size w w' := by
  obtain ⟨w0, hw0⟩ : ∃ w0, w.alloc (.cells #[.int .i64 kind, .int .i64 space, .string name, .string data, .slice sA sn sc, .string pub, .string sys, .int .i64 up, .slice kA kn kc, .int .i64 inner] 29) = w0 := ⟨_, rfl⟩
  have hb0 : Below w.heap.size w w0 := by rw [← hw0]; exact (Below.refl _ w).alloc (Nat.le_refl _) _
  have g0 : w0.heap[w.heap.size]? = some (.cells #[.int .i64 kind, .int .i64 space, .string name, .string data, .slice sA sn sc, .string pub, .string sys, .int .i64 up, .slice kA kn kc, .int .i64 inner] 29 (0, 0)) := by rw [← hw0]; exact heap_alloc_new w _
  have KH := Lib.hid (head8_any w0)
  have H := Lib.hid h
  have HA := Lib.hid hA
  have HSZ := Lib.hid hsz
  have HB0 := Lib.hid hb0
  have G0 := Lib.hid g0
  unfold maxLen at hmx
  clear h hA hsz hb0 g0
  by_cases hl : xs.length ≤ 20
  · have hg : decide (20 < xs.length) = false := decide_eq_false (by omega)
    have hg2 : decide ((20 : Int) < (xs.length : Int)) = false := decide_eq_false (by omega)
    clear hmx
    subst hw0
    go_enter Try.func6, Try.ntmps6
    go_wp2_with fail
    refine KH.out.mono ?_
    rintro e1 w1 ⟨rfl, hb1⟩
    have g1 := (hb1.block _ (by rw [World.size_alloc]; omega)).trans G0.out
    have a0 : w1.cell? ⟨w.heap.size, 0, none⟩ = some (.int .i64 kind) := by rw [cell_of_row _ _ _ _ _ _ g1]; rfl
    have a4 : w1.cell? ⟨w.heap.size, 4, none⟩ = some (.slice sA sn sc) := by rw [cell_of_row _ _ _ _ _ _ g1]; rfl
    have f0 := Lib.frozen_of_heap g1
    have B1 := Lib.hid (HB0.out.trans (hb1.mono HB0.out.size))
    have G1 := Lib.hid g1
    clear hb1 g1 KH HB0 G0
    go_upto_region 7 with fail
    obtain ⟨W2, hW2⟩ : ∃ W2, (w1.setCell ⟨w.heap.size, 0, none⟩ (.int .i64 2)).setCell ⟨w.heap.size, 4, none⟩ (.slice A xs.length cap) = W2 := ⟨_, rfl⟩
    obtain ⟨T, hT⟩ : ∃ T : Nd, T = ⟨2, space, name, data, A, xs, cap, pub, sys, up, .slice kA kn kc, [], inner⟩ := ⟨_, rfl⟩
    have t2 : NdB W2 w.heap.size T := by
      rw [← hW2, hT]
      exact heap_setCell_same _ _ 4 _ _ _ (heap_setCell_same _ _ 0 _ _ _ G1.out)
    have b2 : Below w.heap.size w W2 := by rw [← hW2]; exact (B1.out.setCell (p := ⟨w.heap.size, 0, none⟩) (Nat.le_refl _) _).setCell (p := ⟨w.heap.size, 4, none⟩) (Nat.le_refl _) _
    rw [hW2]
    have HT := Lib.hid hT
    have HT2 := Lib.hid t2
    have HB2 := Lib.hid b2
    have KN := Lib.hid (New_any W2)
    clear hW2 t2 b2 B1 G1 a0 a4 f0 hT
    go_wp2_with fail
    refine KN.out.mono ?_
    rintro e W3 ⟨Da, va, rfl, hd3, hb3⟩
    have KN4 := Lib.hid (New_any W3)
    have HD3 := Lib.hid hd3
    have HB3 := Lib.hid hb3
    clear KN hd3 hb3
    go_wp2_with fail
    refine KN4.out.mono ?_
    rintro e W4 ⟨Db, vb, rfl, hd4, hb4⟩
    have hs2 := HT2.out.lt
    have hs3 := HB3.out.size
    have hs4 := hb4.size
    have HT4 := Lib.hid ((HT2.out.below HB3.out).below hb4)
    have HDa4 := Lib.hid ((HD3.out.below hb4).mono (base' := w.heap.size) (by omega))
    have HDb4 := Lib.hid hd4
    have HB4 := Lib.hid (HB2.out.trans ((HB3.out.trans (hb4.mono hs3)).mono (by omega)))
    have hda : ∀ k, DB Da va [pageNd] k → W2.heap.size ≤ k ∧ k < W3.heap.size := HD3.out.in_
    have hdb : ∀ k, DB Db vb [pageNd] k → W3.heap.size ≤ k ∧ k < W4.heap.size := hd4.in_
    have HDA := Lib.hid hda
    have HDB := Lib.hid hdb
    obtain ⟨a0, a1, a2, a3, a4, a5, a6, a7, a8, a9⟩ := HT4.out.cells
    clear KN4 hd4 hb4 HD3 HB3 HT2 HB2 hda hdb
    rw [HT.out] at a0 a1 a2 a3 a4 a5 a6 a7 a8 a9
    simp only at a0 a1 a2 a3 a4 a5 a6 a7 a8 a9
    have hom : ((W4.alloc (.cells #[.int .i64 2, .int .i64 space, .string name, .string data, .slice A xs.length cap, .string pub, .string sys, .int .i64 up, .slice kA kn kc, .int .i64 inner] 29)).alloc (.cells #[] 54)).ownsRow (W4.heap.size + 1) 54 2 (.slice (some ⟨W4.heap.size + 1, 0, none⟩) 0 0) 0 (cellsA []) := by
      have := World.ownsRow_made (base := W4.heap.size + 1) (e := 54) (size := 2) (W4.alloc (.cells #[.int .i64 2, .int .i64 space, .string name, .string data, .slice A xs.length cap, .string pub, .string sys, .int .i64 up, .slice kA kn kc, .int .i64 inner] 29)) #[] 0 (by simp) (Nat.zero_le _) (by simp)
      simpa [cellsA] using this
    have HOM := Lib.hid hom
    have hr4 : RdA W4 A xs := H.out.below HB4.out
    have HR4 := Lib.hid hr4
    have hlt1 : w.heap.size < W4.heap.size := by omega
    have hne1 : ¬ W4.heap.size = w.heap.size := by omega
    have hne1' : ¬ w.heap.size = W4.heap.size := by omega
    have hne1'' : ¬ w.heap.size = W4.heap.size + 1 := by omega
    have HDIS : Hid (∀ k, DB Db vb [pageNd] k → W3.heap.size ≤ k) := Lib.hid (fun k hk => (HDB.out k hk).1)
    clear hom hr4
    go_wp2_with (at_builtin; refine wpList_append_rda rfl rfl (W4.heap.size + 1) _ 0 [] rfl HOM.out A xs.length cap rfl xs rfl ((HR4.out.below ((Below.refl _ _).alloc (Nat.le_refl _) _)).below ((Below.refl _ _).alloc (Nat.le_refl _) _)) HA.out (by omega) (by simp) ?_)
    intro v5 w5 ho5 hg5 hl5
    obtain ⟨A', cap', rfl, _, _, _, hr5⟩ := RdA.own ho5
    -- BODY
    have hs5 := hg5.size
    have hz4 : ((W4.alloc (.cells #[.int .i64 2, .int .i64 space, .string name, .string data, .slice A xs.length cap, .string pub, .string sys, .int .i64 up, .slice kA kn kc, .int .i64 inner] 29)).alloc (.cells #[] 54)).heap.size = W4.heap.size + 2 := by simp
    have b45 : Below W4.heap.size W4 w5 := (((Below.refl _ W4).alloc (Nat.le_refl _) _).alloc (by simp) _).grown hg5 (by simp; omega) (fun g e => by simp [Value.ownBlock] at e; omega)
    have g5 : w5.heap[W4.heap.size]? = some (.cells #[.int .i64 2, .int .i64 space, .string name, .string data, .slice A xs.length cap, .string pub, .string sys, .int .i64 up, .slice kA kn kc, .int .i64 inner] 29 (0, 0)) := by
      refine (hg5.block _ (by simp; omega) (fun e => by simp [Value.ownBlock] at e)).trans ?_
      exact (Below.heap_alloc _ _ _ (by simp)).trans (heap_alloc_new W4 _)
    obtain ⟨W6, hW6⟩ : ∃ W6, w5.setCell ⟨W4.heap.size, 4, none⟩ (.slice A' xs.length cap') = W6 := ⟨_, rfl⟩
    obtain ⟨U, hU⟩ : ∃ U : Nd, U = (⟨2, space, name, data, A', xs, cap', pub, sys, up, .slice kA kn kc, [], inner⟩ : Nd) := ⟨_, rfl⟩
    have hav : U.av = .slice A' xs.length cap' := by rw [hU]; rfl
    have hol : ∀ k, (Value.slice A' xs.length cap').ownBlock = some k → W4.heap.size + 1 ≤ k := fun k e => (ho5.lt k e).1
    have s6 : SL w W4.heap.size T U Da va [pageNd] W3.heap.size Db vb [pageNd] W6 := by
      have hf : Frm (fun k => k = W4.heap.size) w5 W6 := by rw [← hW6]; exact Frm.set _ rfl
      have hsz : W6.heap.size = w5.heap.size := by rw [← hW6]; simp [World.setCell]
      have hs45 := b45.size
      refine ⟨(HT4.out.below b45).frm hf (by omega), ?_, ?_, (HDa4.out.below b45).keep hf (fun k hk e => by have := HDA.out k hk; omega), (HDb4.out.below b45).keep hf (fun k hk e => by have := HDB.out k hk; omega), fun k hk => ?_, fun k hk => ?_, (HB4.out.trans (b45.mono (by omega))).trans (hf.toBelow (by omega) (fun k e => by omega)), hlt1, ⟨by omega, by omega⟩⟩
      · rw [hU]
        unfold NdB
        rw [← hW6]
        exact heap_setCell_same _ _ 4 _ _ _ g5
      · rw [hav, hU]
        exact hf.own ho5 (fun k e1 e2 => by have := hol k e1; omega)
      · have h1 := HDB.out k hk
        rw [hav]
        exact ⟨by omega, by omega, fun e => by have := hol k e; omega, fun e => by have := HDA.out k e; omega⟩
      · have h1 := HDA.out k hk
        rw [hav]
        exact ⟨by omega, by omega, fun e => by have := hol k e; omega⟩
    have S6 := Lib.hid s6
    have HU := Lib.hid hU
    have htc : T.cs.toArray = #[.int .i64 2, .int .i64 space, .string name, .string data, .slice A xs.length cap, .string pub, .string sys, .int .i64 up, .slice kA kn kc, .int .i64 inner] := by rw [HT.out]; rfl
    have huc : U.cs.toArray = #[.int .i64 2, .int .i64 space, .string name, .string data, .slice A' xs.length cap', .string pub, .string sys, .int .i64 up, .slice kA kn kc, .int .i64 inner] := by rw [hU]; rfl
    have htr : T.attrs = xs ∧ T.aA = A := by rw [HT.out]; exact ⟨rfl, rfl⟩
    have HTC := Lib.hid htc
    have HUC := Lib.hid huc
    have HTR := Lib.hid htr
    have HW6 := Lib.hid hW6
    have f4 : ∀ j, w5.frozen? ⟨W4.heap.size, j, none⟩ = false := Lib.frozen_of_heap g5
    have c4 : w5.cell? ⟨W4.heap.size, 4, none⟩ = some (.slice A xs.length cap) := by rw [cell_of_row _ _ _ _ _ _ g5]; rfl
    clear a0 a1 a2 a3 a4 a5 a6 a7 a8 a9 hav hol s6 hU htc huc htr hW6 b45 g5 ho5 hg5 hl5 hr5 HOM HR4 HDIS HDb4 HDa4 HT4
    go_upto_region 11 with fail
    rw [HW6.out]
    clear f4 c4 hs5 hz4
    obtain ⟨a0, a1, a2, a3, a4, a5, a6, a7, a8, a9⟩ := S6.out.ta.cells
    rw [HT.out] at a0 a1 a2 a3 a4 a5 a6 a7 a8 a9
    simp only at a0 a1 a2 a3 a4 a5 a6 a7 a8 a9
    have kad := add_any T S6.out.da S6.out.bw.size (by simp) (by rw [HTR.out.1, HTR.out.2]; exact H.out.below S6.out.bw) (by rw [HTR.out.1, HTR.out.2]; exact fun e => (HA.out e).2) (by rw [HTR.out.1]; omega)
    rw [HTC.out] at kad
    have KAD := Lib.hid kad
    clear kad
    go_wp2_with fail
    refine KAD.out.mono ?_
    rintro e W7 ⟨rfl, A1, c1, hadd⟩
    obtain ⟨va7, s7⟩ := S6.out.addA hadd
    have S7 := Lib.hid s7
    clear hadd s7 KAD S6 HW6 a0 a1 a2 a3 a4 a5 a6 a7 a8 a9
    obtain ⟨XS, hXS⟩ : ∃ X, [pageNd] ++ nwN [pageNd].length T A1 c1 = X := ⟨_, rfl⟩
    rw [hXS] at S7
    have hxl : XS.length ≤ 3 := by rw [← hXS, List.length_append, nw_len]; split <;> simp
    have HXL := Lib.hid hxl
    have hat : ∀ x ∈ XS, x.attrs.length ≤ 1000000 ∧ x.kids.length ≤ 1000000 := by
      intro x hx
      rw [← hXS] at hx
      rcases List.mem_append.1 hx with hx | hx
      · rw [List.mem_singleton] at hx
        subst hx
        exact ⟨Nat.zero_le _, Nat.zero_le _⟩
      · unfold nwN at hx
        split at hx
        · rcases List.mem_cons.1 hx with rfl | hx
          · exact ⟨by show T.attrs.length ≤ _; rw [HTR.out.1]; omega, Nat.zero_le _⟩
          · rw [List.mem_singleton] at hx
            subst hx
            exact ⟨Nat.zero_le _, Nat.zero_le _⟩
        · rw [List.mem_singleton] at hx
          subst hx
          exact ⟨by show T.attrs.length ≤ _; rw [HTR.out.1]; omega, Nat.zero_le _⟩
    have HAT := Lib.hid hat
    have HXS := Lib.hid hXS
    clear hat hXS hxl
    obtain ⟨a0, a1, a2, a3, a4, a5, a6, a7, a8, a9⟩ := S7.out.tb.cells
    rw [HU.out] at a0 a1 a2 a3 a4 a5 a6 a7 a8 a9
    simp only at a0 a1 a2 a3 a4 a5 a6 a7 a8 a9
    have kbd := add_any U S7.out.db S7.out.b2l.1 (by simp) S7.out.rd.1 S7.out.rd.2 (by rw [HU.out]; show xs.length ≤ _; omega)
    rw [HUC.out] at kbd
    have KBD := Lib.hid kbd
    clear kbd
    go_wp2_with fail
    refine KBD.out.mono ?_
    rintro e W8 ⟨rfl, A2, c2, hadd⟩
    obtain ⟨vb8, s8⟩ := S7.out.adds hadd
    have S8 := Lib.hid s8
    clear hadd s8 KBD S7 a0 a1 a2 a3 a4 a5 a6 a7 a8 a9
    obtain ⟨l8, hsm8⟩ := nw_same [pageNd] [pageNd] T U A1 A2 c1 c2 rfl (by rw [HT.out, HU.out]) (by rw [HT.out, HU.out]) (by rw [HT.out, HU.out]) (by rw [HT.out, HU.out]) (by rw [HT.out, HU.out]) (by rw [HT.out, HU.out]) (by rw [HT.out, HU.out])
    rw [HXS.out] at hsm8
    have KS8 := Lib.hid (S8.out.same HAT.out (by have := HXL.out; omega) _ _ true l8 hsm8)
    clear hsm8
    obtain ⟨YS, hYS⟩ : ∃ X, [pageNd] ++ nwN [pageNd].length U A2 c2 = X := ⟨_, rfl⟩
    rw [hYS] at S8 KS8
    have hyl : YS.length ≤ 3 := by rw [← hYS, List.length_append, nw_len]; split <;> simp
    have HYL := Lib.hid hyl
    have hyk : ∀ y ∈ YS, y.kids = [] ∧ y.kind ≠ 3 := by
      intro y hy
      rw [← hYS] at hy
      have hk2 : U.kind = 2 := by rw [HU.out]
      rcases List.mem_append.1 hy with hy | hy
      · rw [List.mem_singleton] at hy
        subst hy
        exact ⟨rfl, by show (1 : Int) ≠ 3; decide⟩
      · unfold nwN at hy
        split at hy
        · rcases List.mem_cons.1 hy with rfl | hy
          · exact ⟨rfl, by show U.kind ≠ 3; omega⟩
          · rw [List.mem_singleton] at hy
            subst hy
            exact ⟨rfl, by show (1 : Int) ≠ 3; decide⟩
        · rw [List.mem_singleton] at hy
          subst hy
          exact ⟨rfl, by show U.kind ≠ 3; omega⟩
    have HYK := Lib.hid hyk
    clear hyk hyl hYS
    go_wp2_with fail
    refine KS8.out.mono ?_
    rintro e W9 ⟨rfl, s9⟩
    have S9 := Lib.hid s9
    clear s9 S8 KS8
    obtain ⟨hm0, hm1⟩ := and3 which
    obtain ⟨m, hm⟩ : ∃ m : Nat, bits .and .i64 which 7 = (m : Int) := ⟨(bits .and .i64 which 7).toNat, by omega⟩
    rw [hm] at hm0 hm1
    obtain ⟨a0, a1, a2, a3, a4, a5, a6, a7, a8, a9⟩ := S9.out.tb.cells
    rw [HU.out] at a0 a1 a2 a3 a4 a5 a6 a7 a8 a9
    simp only at a0 a1 a2 a3 a4 a5 a6 a7 a8 a9
    have HFZ := Lib.hid (fun j => S9.out.tb.fz j)
    have hcs : m = 0 ∨ m = 1 ∨ m = 2 ∨ m = 3 ∨ m = 4 ∨ m = 5 ∨ m = 6 ∨ m = 7 := by omega
    rcases hcs with rfl | rfl | rfl | rfl | rfl | rfl | rfl | rfl
    · have f0 := HFZ.out 1
      go_upto_region 31 with fail
      obtain ⟨W10, hW10⟩ : ∃ W10, W9.setCell ⟨W4.heap.size, 1, none⟩ (.int .i64 (wrap64 (space + 1))) = W10 := ⟨_, rfl⟩
      rw [hW10]
      have s10 : SL w W4.heap.size T (⟨2, (wrap64 (space + 1)), name, data, A', xs, cap', pub, sys, up, .slice kA kn kc, [], inner⟩ : Nd) Da va7 XS W3.heap.size Db vb8 YS W10 := by
        rw [← hW10]
        have := S9.out
        rw [HU.out] at this
        exact this.set (U' := (⟨2, (wrap64 (space + 1)), name, data, A', xs, cap', pub, sys, up, .slice kA kn kc, [], inner⟩ : Nd)) 1 (.int .i64 (wrap64 (space + 1))) rfl rfl rfl rfl
      clear hW10 S9 f0 HFZ a0 a1 a2 a3 a4 a5 a6 a7 a8 a9 hm
      have huc' : (⟨2, (wrap64 (space + 1)), name, data, A', xs, cap', pub, sys, up, .slice kA kn kc, [], inner⟩ : Nd).cs.toArray = #[.int .i64 2, .int .i64 (wrap64 (space + 1)), .string name, .string data, .slice A' xs.length cap', .string pub, .string sys, .int .i64 up, .slice kA kn kc, .int .i64 inner] := rfl
      have kbd := add_any (⟨2, (wrap64 (space + 1)), name, data, A', xs, cap', pub, sys, up, .slice kA kn kc, [], inner⟩ : Nd) s10.db s10.b2l.1 (by have := HYL.out; omega) s10.rd.1 s10.rd.2 (by show xs.length ≤ _; first | omega | (simp; omega))
      rw [huc'] at kbd
      have KBD := Lib.hid kbd
      have S10 := Lib.hid s10
      obtain ⟨a0, a1, a2, a3, a4, a5, a6, a7, a8, a9⟩ := s10.tb.cells
      simp only at a0 a1 a2 a3 a4 a5 a6 a7 a8 a9
      clear kbd huc' s10
      go_wp2_with fail
      refine KBD.out.mono ?_
      rintro e W11 ⟨rfl, A3, c3, hadd⟩
      obtain ⟨vb11, s11⟩ := S10.out.adds hadd
      have S11 := Lib.hid s11
      clear hadd s11 KBD S10 a0 a1 a2 a3 a4 a5 a6 a7 a8 a9
      have hsm := nw_no [pageNd] YS T (⟨2, (wrap64 (space + 1)), name, data, A', xs, cap', pub, sys, up, .slice kA kn kc, [], inner⟩ : Nd) A1 A3 c1 c3 (by rw [HT.out]; exact Or.inr (Or.inl (wrap_ne space))) 0
      rw [HXS.out] at hsm
      have KS11 := Lib.hid (S11.out.same HAT.out (by have := HXL.out; omega) _ _ false 0 hsm)
      clear hsm
      go_wp2_with fail
      refine KS11.out.mono ?_
      rintro e W12 ⟨rfl, s12⟩
      have hin1 : inN XS ([pageNd].length : Int) = true := by
        obtain ⟨x, hx, _⟩ := nw_get [pageNd] T A1 c1
        rw [HXS.out] at hx
        exact inN_of hx
      have KS12 := Lib.hid (s12.same HAT.out (by have := HXL.out; omega) ([pageNd].length : Int) (-1) false 0 (.miss (by rw [inN_neg, Bool.and_false]) (by rw [hin1, inN_neg]; rfl)))
      clear s12 S11 KS11 hin1
      go_wp2_with fail
      refine KS12.out.mono ?_
      rintro e W13 ⟨rfl, s13⟩
      have KS13 := Lib.hid (s13.same HAT.out (by have := HXL.out; omega) (-1) (-2) true (XS.length : Int) (.skip (by rw [inN_neg]; rfl) (by rw [inN_neg]; rfl) .nil))
      clear s13 KS12
      go_wp2_with fail
      refine KS13.out.mono ?_
      rintro e W14 ⟨rfl, s14⟩
      have HB := Lib.hid s14.bw
      clear s14 KS13
      go_wp2
      go_ret
      exact ⟨rfl, HB.out⟩
    · have f0 := HFZ.out 2
      have hft := catx_fit HSZ.out.1
      go_upto_region 31 with fail
      obtain ⟨W10, hW10⟩ : ∃ W10, W9.setCell ⟨W4.heap.size, 2, none⟩ (.string (name ++ ⟨#[120]⟩)) = W10 := ⟨_, rfl⟩
      rw [hW10]
      have s10 : SL w W4.heap.size T (⟨2, space, (name ++ ⟨#[120]⟩), data, A', xs, cap', pub, sys, up, .slice kA kn kc, [], inner⟩ : Nd) Da va7 XS W3.heap.size Db vb8 YS W10 := by
        rw [← hW10]
        have := S9.out
        rw [HU.out] at this
        exact this.set (U' := (⟨2, space, (name ++ ⟨#[120]⟩), data, A', xs, cap', pub, sys, up, .slice kA kn kc, [], inner⟩ : Nd)) 2 (.string (name ++ ⟨#[120]⟩)) rfl rfl rfl rfl
      clear hW10 S9 f0 HFZ a0 a1 a2 a3 a4 a5 a6 a7 a8 a9 hm
      have huc' : (⟨2, space, (name ++ ⟨#[120]⟩), data, A', xs, cap', pub, sys, up, .slice kA kn kc, [], inner⟩ : Nd).cs.toArray = #[.int .i64 2, .int .i64 space, .string (name ++ ⟨#[120]⟩), .string data, .slice A' xs.length cap', .string pub, .string sys, .int .i64 up, .slice kA kn kc, .int .i64 inner] := rfl
      have kbd := add_any (⟨2, space, (name ++ ⟨#[120]⟩), data, A', xs, cap', pub, sys, up, .slice kA kn kc, [], inner⟩ : Nd) s10.db s10.b2l.1 (by have := HYL.out; omega) s10.rd.1 s10.rd.2 (by show xs.length ≤ _; first | omega | (simp; omega))
      rw [huc'] at kbd
      have KBD := Lib.hid kbd
      have S10 := Lib.hid s10
      obtain ⟨a0, a1, a2, a3, a4, a5, a6, a7, a8, a9⟩ := s10.tb.cells
      simp only at a0 a1 a2 a3 a4 a5 a6 a7 a8 a9
      clear kbd huc' s10
      go_wp2_with fail
      refine KBD.out.mono ?_
      rintro e W11 ⟨rfl, A3, c3, hadd⟩
      obtain ⟨vb11, s11⟩ := S10.out.adds hadd
      have S11 := Lib.hid s11
      clear hadd s11 KBD S10 a0 a1 a2 a3 a4 a5 a6 a7 a8 a9
      have hsm := nw_no [pageNd] YS T (⟨2, space, (name ++ ⟨#[120]⟩), data, A', xs, cap', pub, sys, up, .slice kA kn kc, [], inner⟩ : Nd) A1 A3 c1 c3 (by rw [HT.out]; exact Or.inr (Or.inr (Or.inl (catx_ne name)))) 0
      rw [HXS.out] at hsm
      have KS11 := Lib.hid (S11.out.same HAT.out (by have := HXL.out; omega) _ _ false 0 hsm)
      clear hsm
      go_wp2_with fail
      refine KS11.out.mono ?_
      rintro e W12 ⟨rfl, s12⟩
      have hin1 : inN XS ([pageNd].length : Int) = true := by
        obtain ⟨x, hx, _⟩ := nw_get [pageNd] T A1 c1
        rw [HXS.out] at hx
        exact inN_of hx
      have KS12 := Lib.hid (s12.same HAT.out (by have := HXL.out; omega) ([pageNd].length : Int) (-1) false 0 (.miss (by rw [inN_neg, Bool.and_false]) (by rw [hin1, inN_neg]; rfl)))
      clear s12 S11 KS11 hin1
      go_wp2_with fail
      refine KS12.out.mono ?_
      rintro e W13 ⟨rfl, s13⟩
      have KS13 := Lib.hid (s13.same HAT.out (by have := HXL.out; omega) (-1) (-2) true (XS.length : Int) (.skip (by rw [inN_neg]; rfl) (by rw [inN_neg]; rfl) .nil))
      clear s13 KS12
      go_wp2_with fail
      refine KS13.out.mono ?_
      rintro e W14 ⟨rfl, s14⟩
      have HB := Lib.hid s14.bw
      clear s14 KS13
      go_wp2
      go_ret
      exact ⟨rfl, HB.out⟩
    · have f0 := HFZ.out 3
      have hft := catx_fit HSZ.out.2.1
      go_upto_region 31 with fail
      obtain ⟨W10, hW10⟩ : ∃ W10, W9.setCell ⟨W4.heap.size, 3, none⟩ (.string (data ++ ⟨#[120]⟩)) = W10 := ⟨_, rfl⟩
      rw [hW10]
      have s10 : SL w W4.heap.size T (⟨2, space, name, (data ++ ⟨#[120]⟩), A', xs, cap', pub, sys, up, .slice kA kn kc, [], inner⟩ : Nd) Da va7 XS W3.heap.size Db vb8 YS W10 := by
        rw [← hW10]
        have := S9.out
        rw [HU.out] at this
        exact this.set (U' := (⟨2, space, name, (data ++ ⟨#[120]⟩), A', xs, cap', pub, sys, up, .slice kA kn kc, [], inner⟩ : Nd)) 3 (.string (data ++ ⟨#[120]⟩)) rfl rfl rfl rfl
      clear hW10 S9 f0 HFZ a0 a1 a2 a3 a4 a5 a6 a7 a8 a9 hm
      have huc' : (⟨2, space, name, (data ++ ⟨#[120]⟩), A', xs, cap', pub, sys, up, .slice kA kn kc, [], inner⟩ : Nd).cs.toArray = #[.int .i64 2, .int .i64 space, .string name, .string (data ++ ⟨#[120]⟩), .slice A' xs.length cap', .string pub, .string sys, .int .i64 up, .slice kA kn kc, .int .i64 inner] := rfl
      have kbd := add_any (⟨2, space, name, (data ++ ⟨#[120]⟩), A', xs, cap', pub, sys, up, .slice kA kn kc, [], inner⟩ : Nd) s10.db s10.b2l.1 (by have := HYL.out; omega) s10.rd.1 s10.rd.2 (by show xs.length ≤ _; first | omega | (simp; omega))
      rw [huc'] at kbd
      have KBD := Lib.hid kbd
      have S10 := Lib.hid s10
      obtain ⟨a0, a1, a2, a3, a4, a5, a6, a7, a8, a9⟩ := s10.tb.cells
      simp only at a0 a1 a2 a3 a4 a5 a6 a7 a8 a9
      clear kbd huc' s10
      go_wp2_with fail
      refine KBD.out.mono ?_
      rintro e W11 ⟨rfl, A3, c3, hadd⟩
      obtain ⟨vb11, s11⟩ := S10.out.adds hadd
      have S11 := Lib.hid s11
      clear hadd s11 KBD S10 a0 a1 a2 a3 a4 a5 a6 a7 a8 a9
      have hsm := nw_no [pageNd] YS T (⟨2, space, name, (data ++ ⟨#[120]⟩), A', xs, cap', pub, sys, up, .slice kA kn kc, [], inner⟩ : Nd) A1 A3 c1 c3 (by rw [HT.out]; exact Or.inr (Or.inr (Or.inr (Or.inl (catx_ne data))))) 0
      rw [HXS.out] at hsm
      have KS11 := Lib.hid (S11.out.same HAT.out (by have := HXL.out; omega) _ _ false 0 hsm)
      clear hsm
      go_wp2_with fail
      refine KS11.out.mono ?_
      rintro e W12 ⟨rfl, s12⟩
      have hin1 : inN XS ([pageNd].length : Int) = true := by
        obtain ⟨x, hx, _⟩ := nw_get [pageNd] T A1 c1
        rw [HXS.out] at hx
        exact inN_of hx
      have KS12 := Lib.hid (s12.same HAT.out (by have := HXL.out; omega) ([pageNd].length : Int) (-1) false 0 (.miss (by rw [inN_neg, Bool.and_false]) (by rw [hin1, inN_neg]; rfl)))
      clear s12 S11 KS11 hin1
      go_wp2_with fail
      refine KS12.out.mono ?_
      rintro e W13 ⟨rfl, s13⟩
      have KS13 := Lib.hid (s13.same HAT.out (by have := HXL.out; omega) (-1) (-2) true (XS.length : Int) (.skip (by rw [inN_neg]; rfl) (by rw [inN_neg]; rfl) .nil))
      clear s13 KS12
      go_wp2_with fail
      refine KS13.out.mono ?_
      rintro e W14 ⟨rfl, s14⟩
      have HB := Lib.hid s14.bw
      clear s14 KS13
      go_wp2
      go_ret
      exact ⟨rfl, HB.out⟩
    · have f0 := HFZ.out 5
      have hft := catx_fit HSZ.out.2.2.1
      go_upto_region 31 with fail
      obtain ⟨W10, hW10⟩ : ∃ W10, W9.setCell ⟨W4.heap.size, 5, none⟩ (.string (pub ++ ⟨#[120]⟩)) = W10 := ⟨_, rfl⟩
      rw [hW10]
      have s10 : SL w W4.heap.size T (⟨2, space, name, data, A', xs, cap', (pub ++ ⟨#[120]⟩), sys, up, .slice kA kn kc, [], inner⟩ : Nd) Da va7 XS W3.heap.size Db vb8 YS W10 := by
        rw [← hW10]
        have := S9.out
        rw [HU.out] at this
        exact this.set (U' := (⟨2, space, name, data, A', xs, cap', (pub ++ ⟨#[120]⟩), sys, up, .slice kA kn kc, [], inner⟩ : Nd)) 5 (.string (pub ++ ⟨#[120]⟩)) rfl rfl rfl rfl
      clear hW10 S9 f0 HFZ a0 a1 a2 a3 a4 a5 a6 a7 a8 a9 hm
      have huc' : (⟨2, space, name, data, A', xs, cap', (pub ++ ⟨#[120]⟩), sys, up, .slice kA kn kc, [], inner⟩ : Nd).cs.toArray = #[.int .i64 2, .int .i64 space, .string name, .string data, .slice A' xs.length cap', .string (pub ++ ⟨#[120]⟩), .string sys, .int .i64 up, .slice kA kn kc, .int .i64 inner] := rfl
      have kbd := add_any (⟨2, space, name, data, A', xs, cap', (pub ++ ⟨#[120]⟩), sys, up, .slice kA kn kc, [], inner⟩ : Nd) s10.db s10.b2l.1 (by have := HYL.out; omega) s10.rd.1 s10.rd.2 (by show xs.length ≤ _; first | omega | (simp; omega))
      rw [huc'] at kbd
      have KBD := Lib.hid kbd
      have S10 := Lib.hid s10
      obtain ⟨a0, a1, a2, a3, a4, a5, a6, a7, a8, a9⟩ := s10.tb.cells
      simp only at a0 a1 a2 a3 a4 a5 a6 a7 a8 a9
      clear kbd huc' s10
      go_wp2_with fail
      refine KBD.out.mono ?_
      rintro e W11 ⟨rfl, A3, c3, hadd⟩
      obtain ⟨vb11, s11⟩ := S10.out.adds hadd
      have S11 := Lib.hid s11
      clear hadd s11 KBD S10 a0 a1 a2 a3 a4 a5 a6 a7 a8 a9
      have hsm := nw_no [pageNd] YS T (⟨2, space, name, data, A', xs, cap', (pub ++ ⟨#[120]⟩), sys, up, .slice kA kn kc, [], inner⟩ : Nd) A1 A3 c1 c3 (by rw [HT.out]; exact Or.inr (Or.inr (Or.inr (Or.inr (Or.inr (Or.inl (catx_ne pub))))))) 0
      rw [HXS.out] at hsm
      have KS11 := Lib.hid (S11.out.same HAT.out (by have := HXL.out; omega) _ _ false 0 hsm)
      clear hsm
      go_wp2_with fail
      refine KS11.out.mono ?_
      rintro e W12 ⟨rfl, s12⟩
      have hin1 : inN XS ([pageNd].length : Int) = true := by
        obtain ⟨x, hx, _⟩ := nw_get [pageNd] T A1 c1
        rw [HXS.out] at hx
        exact inN_of hx
      have KS12 := Lib.hid (s12.same HAT.out (by have := HXL.out; omega) ([pageNd].length : Int) (-1) false 0 (.miss (by rw [inN_neg, Bool.and_false]) (by rw [hin1, inN_neg]; rfl)))
      clear s12 S11 KS11 hin1
      go_wp2_with fail
      refine KS12.out.mono ?_
      rintro e W13 ⟨rfl, s13⟩
      have KS13 := Lib.hid (s13.same HAT.out (by have := HXL.out; omega) (-1) (-2) true (XS.length : Int) (.skip (by rw [inN_neg]; rfl) (by rw [inN_neg]; rfl) .nil))
      clear s13 KS12
      go_wp2_with fail
      refine KS13.out.mono ?_
      rintro e W14 ⟨rfl, s14⟩
      have HB := Lib.hid s14.bw
      clear s14 KS13
      go_wp2
      go_ret
      exact ⟨rfl, HB.out⟩
    · have f0 := HFZ.out 6
      have hft := catx_fit HSZ.out.2.2.2
      go_upto_region 31 with fail
      obtain ⟨W10, hW10⟩ : ∃ W10, W9.setCell ⟨W4.heap.size, 6, none⟩ (.string (sys ++ ⟨#[120]⟩)) = W10 := ⟨_, rfl⟩
      rw [hW10]
      have s10 : SL w W4.heap.size T (⟨2, space, name, data, A', xs, cap', pub, (sys ++ ⟨#[120]⟩), up, .slice kA kn kc, [], inner⟩ : Nd) Da va7 XS W3.heap.size Db vb8 YS W10 := by
        rw [← hW10]
        have := S9.out
        rw [HU.out] at this
        exact this.set (U' := (⟨2, space, name, data, A', xs, cap', pub, (sys ++ ⟨#[120]⟩), up, .slice kA kn kc, [], inner⟩ : Nd)) 6 (.string (sys ++ ⟨#[120]⟩)) rfl rfl rfl rfl
      clear hW10 S9 f0 HFZ a0 a1 a2 a3 a4 a5 a6 a7 a8 a9 hm
      have huc' : (⟨2, space, name, data, A', xs, cap', pub, (sys ++ ⟨#[120]⟩), up, .slice kA kn kc, [], inner⟩ : Nd).cs.toArray = #[.int .i64 2, .int .i64 space, .string name, .string data, .slice A' xs.length cap', .string pub, .string (sys ++ ⟨#[120]⟩), .int .i64 up, .slice kA kn kc, .int .i64 inner] := rfl
      have kbd := add_any (⟨2, space, name, data, A', xs, cap', pub, (sys ++ ⟨#[120]⟩), up, .slice kA kn kc, [], inner⟩ : Nd) s10.db s10.b2l.1 (by have := HYL.out; omega) s10.rd.1 s10.rd.2 (by show xs.length ≤ _; first | omega | (simp; omega))
      rw [huc'] at kbd
      have KBD := Lib.hid kbd
      have S10 := Lib.hid s10
      obtain ⟨a0, a1, a2, a3, a4, a5, a6, a7, a8, a9⟩ := s10.tb.cells
      simp only at a0 a1 a2 a3 a4 a5 a6 a7 a8 a9
      clear kbd huc' s10
      go_wp2_with fail
      refine KBD.out.mono ?_
      rintro e W11 ⟨rfl, A3, c3, hadd⟩
      obtain ⟨vb11, s11⟩ := S10.out.adds hadd
      have S11 := Lib.hid s11
      clear hadd s11 KBD S10 a0 a1 a2 a3 a4 a5 a6 a7 a8 a9
      have hsm := nw_no [pageNd] YS T (⟨2, space, name, data, A', xs, cap', pub, (sys ++ ⟨#[120]⟩), up, .slice kA kn kc, [], inner⟩ : Nd) A1 A3 c1 c3 (by rw [HT.out]; exact Or.inr (Or.inr (Or.inr (Or.inr (Or.inr (Or.inr (catx_ne sys))))))) 0
      rw [HXS.out] at hsm
      have KS11 := Lib.hid (S11.out.same HAT.out (by have := HXL.out; omega) _ _ false 0 hsm)
      clear hsm
      go_wp2_with fail
      refine KS11.out.mono ?_
      rintro e W12 ⟨rfl, s12⟩
      have hin1 : inN XS ([pageNd].length : Int) = true := by
        obtain ⟨x, hx, _⟩ := nw_get [pageNd] T A1 c1
        rw [HXS.out] at hx
        exact inN_of hx
      have KS12 := Lib.hid (s12.same HAT.out (by have := HXL.out; omega) ([pageNd].length : Int) (-1) false 0 (.miss (by rw [inN_neg, Bool.and_false]) (by rw [hin1, inN_neg]; rfl)))
      clear s12 S11 KS11 hin1
      go_wp2_with fail
      refine KS12.out.mono ?_
      rintro e W13 ⟨rfl, s13⟩
      have KS13 := Lib.hid (s13.same HAT.out (by have := HXL.out; omega) (-1) (-2) true (XS.length : Int) (.skip (by rw [inN_neg]; rfl) (by rw [inN_neg]; rfl) .nil))
      clear s13 KS12
      go_wp2_with fail
      refine KS13.out.mono ?_
      rintro e W14 ⟨rfl, s14⟩
      have HB := Lib.hid s14.bw
      clear s14 KS13
      go_wp2
      go_ret
      exact ⟨rfl, HB.out⟩
    · have f0 := HFZ.out 4
      have ho9 : W9.ownsRow (W4.heap.size + 1) 54 2 (.slice A' xs.length cap') xs.length (cellsA xs) := by have := S9.out.ho; rw [HU.out] at this; exact this
      have HO9 := Lib.hid (ho9.alloc (.cells #[.string ⟨#[]⟩, .string ⟨#[]⟩] 54))
      have hz9 := S9.out.tb.lt
      have hb9 : W4.heap.size + 1 ≤ (W9.alloc (.cells #[.string ⟨#[]⟩, .string ⟨#[]⟩] 54)).heap.size := by rw [World.size_alloc]; omega
      have HB9 := Lib.hid hb9
      have rd9 : RdA (W9.alloc (.cells #[.string ⟨#[]⟩, .string ⟨#[]⟩] 54)) (some ⟨W9.heap.size, 0, none⟩) [((⟨#[]⟩ : ByteArray), (⟨#[]⟩ : ByteArray))] := by
        have g := heap_alloc_new W9 (.cells #[.string ⟨#[]⟩, .string ⟨#[]⟩] 54)
        refine .inr ⟨W9.heap.size, 0, rfl, by rw [World.size_alloc]; omega, fun i x hx => ?_⟩
        match i, hx with
        | 0, hx => simp at hx; subst hx; exact ⟨by rw [cell_of_row _ _ _ _ _ _ g]; rfl, by rw [cell_of_row _ _ _ _ _ _ g]; rfl⟩
        | i + 1, hx => simp at hx
      have HRD9 := Lib.hid rd9
      clear ho9 hz9 hb9 rd9
      obtain ⟨zs, hzs⟩ : ∃ zs, xs ++ [((⟨#[]⟩ : ByteArray), (⟨#[]⟩ : ByteArray))] = zs := ⟨_, rfl⟩
      have hzl : zs.length = xs.length + 1 := by rw [← hzs, List.length_append]; rfl
      have HZS := Lib.hid hzs
      have HZL := Lib.hid hzl
      clear hzs hzl
      go_wp2_with (at_builtin; refine wpList_append_rda rfl rfl (W4.heap.size + 1) _ xs.length xs rfl HO9.out (some ⟨W9.heap.size, 0, none⟩) 1 1 rfl [((⟨#[]⟩ : ByteArray), (⟨#[]⟩ : ByteArray))] rfl HRD9.out (fun e => by cases e) (by omega) HB9.out ?_)
      intro v10 w10 ho10 hg10 hl10
      obtain ⟨A5, c5, rfl⟩ := own_slice ho10
      have hU4 : U.av = .slice A' xs.length cap' := by rw [HU.out]; rfl
      have s10 : SL w W4.heap.size T (⟨2, space, name, data, A5, zs, c5, pub, sys, up, .slice kA kn kc, [], inner⟩ : Nd) Da va7 XS W3.heap.size Db vb8 YS (w10.setCell ⟨W4.heap.size, 4, none⟩ (.slice A5 (xs.length + 1) c5)) := by
        rw [← HZL.out]
        refine S9.out.attr (U' := (⟨2, space, name, data, A5, zs, c5, pub, sys, up, .slice kA kn kc, [], inner⟩ : Nd)) (.cells #[.string ⟨#[]⟩, .string ⟨#[]⟩] 54) (by rw [hU4]; exact hg10) (by show w10.ownsRow (W4.heap.size + 1) 54 2 (.slice A5 zs.length c5) zs.length (cellsA zs); rw [HZL.out, ← HZS.out]; exact ho10) (by rw [hU4]; show (Value.slice A5 zs.length c5).ownBlock = _ ∨ (Value.slice A5 zs.length c5).ownBlock = _; rw [HZL.out, World.size_alloc]; exact hl10) (by rw [HU.out]; rfl)
      have c4 : w10.cell? ⟨W4.heap.size, 4, none⟩ = some (.slice A' xs.length cap') ∧ ∀ j, w10.frozen? ⟨W4.heap.size, j, none⟩ = false := by
        have g : w10.heap[W4.heap.size]? = some (.cells U.cs.toArray 29 (0, 0)) := (hg10.block _ (by rw [World.size_alloc]; have := S9.out.tb.lt; omega) (fun e => by have := (HO9.out.lt _ e.symm).1; omega)).trans ((Below.heap_alloc _ _ _ S9.out.tb.lt).trans S9.out.tb)
        refine ⟨?_, Lib.frozen_of_heap g⟩
        rw [cell_of_row _ _ _ _ _ _ g, HUC.out]
        rfl
      obtain ⟨c4, c4f⟩ := c4
      clear hg10 ho10 hl10 hU4 HO9 HB9 HRD9 f0 S9 a0 a1 a2 a3 a4 a5 a6 a7 a8 a9 hm HFZ
      go_upto_region 31 with fail
      obtain ⟨W10, hW10⟩ : ∃ W10, w10.setCell ⟨W4.heap.size, 4, none⟩ (.slice A5 (xs.length + 1) c5) = W10 := ⟨_, rfl⟩
      rw [hW10] at s10 ⊢
      clear hW10 c4 c4f
      have huc' : (⟨2, space, name, data, A5, zs, c5, pub, sys, up, .slice kA kn kc, [], inner⟩ : Nd).cs.toArray = #[.int .i64 2, .int .i64 space, .string name, .string data, .slice A5 (xs.length + 1) c5, .string pub, .string sys, .int .i64 up, .slice kA kn kc, .int .i64 inner] := by rw [← HZL.out]; rfl
      have kbd := add_any (⟨2, space, name, data, A5, zs, c5, pub, sys, up, .slice kA kn kc, [], inner⟩ : Nd) s10.db s10.b2l.1 (by have := HYL.out; omega) s10.rd.1 s10.rd.2 (by show zs.length ≤ _; have := HZL.out; omega)
      rw [huc'] at kbd
      have KBD := Lib.hid kbd
      have S10 := Lib.hid s10
      obtain ⟨a0, a1, a2, a3, a4, a5, a6, a7, a8, a9⟩ := s10.tb.cells
      simp only [HZL.out] at a0 a1 a2 a3 a4 a5 a6 a7 a8 a9
      clear kbd huc' s10
      go_wp2_with fail
      refine KBD.out.mono ?_
      rintro e W11 ⟨rfl, A3, c3, hadd⟩
      obtain ⟨vb11, s11⟩ := S10.out.adds hadd
      have S11 := Lib.hid s11
      clear hadd s11 KBD S10 a0 a1 a2 a3 a4 a5 a6 a7 a8 a9
      have hsm := nw_no [pageNd] YS T (⟨2, space, name, data, A5, zs, c5, pub, sys, up, .slice kA kn kc, [], inner⟩ : Nd) A1 A3 c1 c3 (by rw [HT.out]; exact Or.inr (Or.inr (Or.inr (Or.inr (Or.inl (fun e => by have := congrArg List.length e; have h2 := HZL.out; simp only at this; omega)))))) 0
      rw [HXS.out] at hsm
      have KS11 := Lib.hid (S11.out.same HAT.out (by have := HXL.out; omega) _ _ false 0 hsm)
      clear hsm
      go_wp2_with fail
      refine KS11.out.mono ?_
      rintro e W12 ⟨rfl, s12⟩
      have hin1 : inN XS ([pageNd].length : Int) = true := by
        obtain ⟨x, hx, _⟩ := nw_get [pageNd] T A1 c1
        rw [HXS.out] at hx
        exact inN_of hx
      have KS12 := Lib.hid (s12.same HAT.out (by have := HXL.out; omega) ([pageNd].length : Int) (-1) false 0 (.miss (by rw [inN_neg, Bool.and_false]) (by rw [hin1, inN_neg]; rfl)))
      clear s12 S11 KS11 hin1
      go_wp2_with fail
      refine KS12.out.mono ?_
      rintro e W13 ⟨rfl, s13⟩
      have KS13 := Lib.hid (s13.same HAT.out (by have := HXL.out; omega) (-1) (-2) true (XS.length : Int) (.skip (by rw [inN_neg]; rfl) (by rw [inN_neg]; rfl) .nil))
      clear s13 KS12
      go_wp2_with fail
      refine KS13.out.mono ?_
      rintro e W14 ⟨rfl, s14⟩
      have HB := Lib.hid s14.bw
      clear s14 KS13
      go_wp2
      go_ret
      exact ⟨rfl, HB.out⟩
    · have f0 := HFZ.out 0
      go_upto_region 31 with fail
      obtain ⟨W10, hW10⟩ : ∃ W10, W9.setCell ⟨W4.heap.size, 0, none⟩ (.int .i64 4) = W10 := ⟨_, rfl⟩
      rw [hW10]
      have s10 : SL w W4.heap.size T (⟨4, space, name, data, A', xs, cap', pub, sys, up, .slice kA kn kc, [], inner⟩ : Nd) Da va7 XS W3.heap.size Db vb8 YS W10 := by
        rw [← hW10]
        have := S9.out
        rw [HU.out] at this
        exact this.set (U' := (⟨4, space, name, data, A', xs, cap', pub, sys, up, .slice kA kn kc, [], inner⟩ : Nd)) 0 (.int .i64 4) rfl rfl rfl rfl
      clear hW10 S9 f0 HFZ a0 a1 a2 a3 a4 a5 a6 a7 a8 a9 hm
      have huc' : (⟨4, space, name, data, A', xs, cap', pub, sys, up, .slice kA kn kc, [], inner⟩ : Nd).cs.toArray = #[.int .i64 4, .int .i64 space, .string name, .string data, .slice A' xs.length cap', .string pub, .string sys, .int .i64 up, .slice kA kn kc, .int .i64 inner] := rfl
      have kbd := add_any (⟨4, space, name, data, A', xs, cap', pub, sys, up, .slice kA kn kc, [], inner⟩ : Nd) s10.db s10.b2l.1 (by have := HYL.out; omega) s10.rd.1 s10.rd.2 (by show xs.length ≤ _; first | omega | (simp; omega))
      rw [huc'] at kbd
      have KBD := Lib.hid kbd
      have S10 := Lib.hid s10
      obtain ⟨a0, a1, a2, a3, a4, a5, a6, a7, a8, a9⟩ := s10.tb.cells
      simp only at a0 a1 a2 a3 a4 a5 a6 a7 a8 a9
      clear kbd huc' s10
      go_wp2_with fail
      refine KBD.out.mono ?_
      rintro e W11 ⟨rfl, A3, c3, hadd⟩
      obtain ⟨vb11, s11⟩ := S10.out.adds hadd
      have S11 := Lib.hid s11
      clear hadd s11 KBD S10 a0 a1 a2 a3 a4 a5 a6 a7 a8 a9
      have hsm := nw_no [pageNd] YS T (⟨4, space, name, data, A', xs, cap', pub, sys, up, .slice kA kn kc, [], inner⟩ : Nd) A1 A3 c1 c3 (by rw [HT.out]; exact Or.inl (show (2 : Int) ≠ 4 by decide)) 0
      rw [HXS.out] at hsm
      have KS11 := Lib.hid (S11.out.same HAT.out (by have := HXL.out; omega) _ _ false 0 hsm)
      clear hsm
      go_wp2_with fail
      refine KS11.out.mono ?_
      rintro e W12 ⟨rfl, s12⟩
      have hin1 : inN XS ([pageNd].length : Int) = true := by
        obtain ⟨x, hx, _⟩ := nw_get [pageNd] T A1 c1
        rw [HXS.out] at hx
        exact inN_of hx
      have KS12 := Lib.hid (s12.same HAT.out (by have := HXL.out; omega) ([pageNd].length : Int) (-1) false 0 (.miss (by rw [inN_neg, Bool.and_false]) (by rw [hin1, inN_neg]; rfl)))
      clear s12 S11 KS11 hin1
      go_wp2_with fail
      refine KS12.out.mono ?_
      rintro e W13 ⟨rfl, s13⟩
      have KS13 := Lib.hid (s13.same HAT.out (by have := HXL.out; omega) (-1) (-2) true (XS.length : Int) (.skip (by rw [inN_neg]; rfl) (by rw [inN_neg]; rfl) .nil))
      clear s13 KS12
      go_wp2_with fail
      refine KS13.out.mono ?_
      rintro e W14 ⟨rfl, s14⟩
      have HB := Lib.hid s14.bw
      clear s14 KS13
      go_wp2
      go_ret
      exact ⟨rfl, HB.out⟩
    · clear HFZ a0 a1 a2 a3 a4 a5 a6 a7 a8 a9
      obtain ⟨a0, a1, a2, a3, a4, a5, a6, a7, a8, a9⟩ := S9.out.ta.cells
      rw [HT.out] at a0 a1 a2 a3 a4 a5 a6 a7 a8 a9
      simp only at a0 a1 a2 a3 a4 a5 a6 a7 a8 a9
      have kad := add_any T S9.out.db S9.out.b2l.1 (by have := HYL.out; omega) (by rw [HTR.out.1, HTR.out.2]; exact H.out.below S9.out.bw) (by rw [HTR.out.1, HTR.out.2]; exact fun e => (HA.out e).2) (by rw [HTR.out.1]; omega)
      rw [HTC.out] at kad
      have KAD := Lib.hid kad
      clear kad
      go_wp2_with fail
      refine KAD.out.mono ?_
      rintro e W11 ⟨rfl, A3, c3, hadd⟩
      obtain ⟨vb11, s11⟩ := S9.out.adds hadd
      have S11 := Lib.hid s11
      clear hadd KAD S9 a0 a1 a2 a3 a4 a5 a6 a7 a8 a9
      obtain ⟨y, hy, y1, y2, y3, y4, y5, y6, y7, y8, _⟩ := nw_get YS T A3 c3
      have hk2 : T.kind = 2 := by rw [HT.out]
      obtain ⟨ZS, hZS⟩ : ∃ Z, YS ++ nwN YS.length T A3 c3 = Z := ⟨_, rfl⟩
      have hzn : ∀ z ∈ ZS, z.kids = [] ∧ z.kind ≠ 3 := by
        intro z hz
        rw [← hZS] at hz
        rcases List.mem_append.1 hz with hz | hz
        · exact HYK.out z hz
        · unfold nwN at hz
          split at hz
          · rcases List.mem_cons.1 hz with rfl | hz
            · exact ⟨rfl, by show T.kind ≠ 3; omega⟩
            · rw [List.mem_singleton] at hz
              subst hz
              exact ⟨rfl, by show (1 : Int) ≠ 3; decide⟩
          · rw [List.mem_singleton] at hz
            subst hz
            exact ⟨rfl, by show T.kind ≠ 3; omega⟩
      have hzl : ZS.length ≤ 5 ∧ YS.length < ZS.length := by rw [← hZS, List.length_append, nw_len]; have := HYL.out; split <;> omega
      rw [hZS] at S11 hy s11
      have ksy := say_anyK (YS.length : Int) (⟨#[120]⟩ : ByteArray) (-1) W11 s11.db (by omega) (fun x hx => by rw [(hzn x hx).1]; exact (by decide : (0 : Nat) < 1000000)) (fun x hx h3 => absurd h3 (hzn x hx).2)
      have KSY := Lib.hid ksy
      have hkd : kdN ZS (YS.length : Int) = [] := by unfold kdN; rw [atN_some hy]; exact y8
      have hsn : sayN ZS (YS.length : Int) (-1) = none := by unfold sayN plcN; rw [if_pos rfl, hkd]; rfl
      have hpl : plcB ZS (YS.length : Int) (-1) = true := by unfold plcB; rw [if_pos rfl]
      have HIN := Lib.hid (inN_of hy)
      have HSN := Lib.hid hsn
      have HPL := Lib.hid hpl
      have HY := Lib.hid hy
      have HZN := Lib.hid hzn
      have HZL := Lib.hid hzl
      have HYF := Lib.hid (show y.kind = 2 ∧ y.kids = [] from ⟨y1.trans hk2, y8⟩)
      have HZS := Lib.hid hZS
      clear s11 ksy hkd hsn hpl hy hzn hzl hZS y1 y2 y3 y4 y5 y6 y7 y8 hk2
      go_wp2_with fail
      refine KSY.out.mono ?_
      rintro e W12 ⟨ns', z, hsr, rfl, hadd⟩
      obtain ⟨vb12, s12⟩ := S11.out.adds hadd
      have S12 := Lib.hid s12
      clear hadd s12 KSY S11
      obtain ⟨A4, c4, v1, v2, e1, e2⟩ := say_new hsr HIN.out (by decide +kernel) HPL.out HSN.out
      have hgy : (ZS ++ [aloneNd (txN ⟨#[120]⟩) A4 c4])[YS.length]? = some y := by rw [List.getElem?_append_left HZL.out.2]; exact HY.out
      have hgt : (ZS ++ [aloneNd (txN ⟨#[120]⟩) A4 c4])[ZS.length]? = some (aloneNd (txN ⟨#[120]⟩) A4 c4) := by rw [List.getElem?_append_right (Nat.le_refl _), Nat.sub_self]; rfl
      have hwi : withN (ZS ++ [aloneNd (txN ⟨#[120]⟩) A4 c4]) (YS.length : Int) (ZS.length : Int) = false := by
        unfold withN
        rw [if_neg (by have := HZL.out.2; omega), if_pos]
        refine ⟨?_, ?_⟩
        · unfold kdN; rw [atN_some hgt]; rfl
        · unfold innN; rw [atN_some hgt]; rfl
      obtain ⟨p1, p2⟩ := put_new hgy hgt (.inr HYF.out.1) (by show (3 : Int) ≠ 1; decide) rfl hwi v1 v2
      obtain ⟨y', q1, q2, q3, _⟩ := p2 YS.length y hgy
      rw [← e1] at q1
      rw [if_pos rfl, HYF.out.2] at q3
      have hz0 : z = 0 := e2.trans p1
      subst hz0
      obtain ⟨x, hx, _, _, _, _, _, _, _, x8, _⟩ := nw_get [pageNd] T A1 c1
      rw [HXS.out] at hx
      have hsm := sm_no hx q1 (by rw [x8, q3]; simp) 0
      have KS12 := Lib.hid (S12.out.same HAT.out (by have := HXL.out; omega) _ _ false 0 hsm)
      clear hsm hsr e1 e2 hgy hgt hwi p1 p2 q1 q2 q3 hx x8
      go_wp2_with fail
      refine KS12.out.mono ?_
      rintro e W13 ⟨rfl, s13⟩
      have HB := Lib.hid s13.bw
      clear s13 KS12
      go_wp2
      go_ret
      exact ⟨rfl, HB.out⟩
  · have hg : decide (20 < xs.length) = true := decide_eq_true (by omega)
    have hg2 : decide ((20 : Int) < (xs.length : Int)) = true := decide_eq_true (by omega)
    subst hw0
    go_enter Try.func6, Try.ntmps6
    go_wp2_with fail
    refine KH.out.mono ?_
    rintro e1 w1 ⟨rfl, hb1⟩
    have B1 := Lib.hid (HB0.out.trans (hb1.mono HB0.out.size))
    clear hb1
    go_wp2
    go_ret
    exact ⟨rfl, B1.out⟩
end Go.Proofs.Ytodlcfhkiilpgaa
