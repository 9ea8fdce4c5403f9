/- What the law of DomWalks keeps in memory. -/
import Derived.Test.YtodlcfhkiilpgaaJd
import Derived.Test.YtodlcfhkiilpgaaJe
import Derived.Test.YtodlcfhkiilpgaaJf
import Derived.Maps.OwnIn
namespace Go.Proofs.Ytodlcfhkiilpgaa
open Go.RowKit Go.Shelf Go.Lib

/-- one more number behind a row, inside a round -/
theorem wpListIn_append_rdI {F : Fence} {nF : Nat} {w : World} {ops : Array Oper} {rest : List Oper} {o : Oper} {a : Act} {Q : Exit → Act → World → Prop} {s x : Operand} (hgd : o.guard = none)
    (ho : o.op = .call { callee := .builtin .append, args := #[s, x], argTypes := #[27, 27] }) (base : Nat) (v : Value) (l : List Int) (hs : a.eval s = v) (hown : w.ownsRow base 3 1 v l.length (l.map (Value.int .i64)))
    (ad : Addr) (m c : Nat) (hx : a.eval x = .slice (some ad) m c) (news : List Int) (hm : news.length = m) (hrd : Rd w .i64 (some ad) news) (hn : l.length + m ≤ 100000000) (hbase : base ≤ w.heap.size)
    (h : ∀ v' w', w'.ownsRow base 3 1 v' (l ++ news).length ((l ++ news).map (Value.int .i64)) → w.grownBy w' v.ownBlock → (v'.ownBlock = v.ownBlock ∨ v'.ownBlock = some w.heap.size) → wpListIn F nF Try.prog ops Q rest (a.put o.dst v') w') : wpListIn F nF Try.prog ops Q (o :: rest) a w := by
  obtain ⟨i0, hi, hz0, hz1, hz2⟩ := info_parts infoInt
  refine wpListIn_append_own_at w hgd s x 27 ho base 3 i0 _ 1 8 Try.underlying27 hi hz0 hz1 hz2 rfl (by decide) v l.length _ hs hown ad m c (news.map (Value.int .i64)) hx (by simp [hm]) hrd.add (ints_one news) (by unfold maxLen; omega) (by omega) hbase ?_
  intro v' w' h1 h2 _ h4
  refine h v' w' ?_ h2 h4
  rw [List.length_append, hm, List.map_append]
  exact h1
/-- boxes that the first range turns -/
def SW (E : Nat) (k : Nat) : Prop := (E + 2 ≤ k ∧ k ≤ E + 6) ∨ E + 14 ≤ k
/-- what lies there all along -/
structure LW (B0 B1 D : Nat) (v : Value) (ns : List Nd) (va : Value) (os : List Ow) (P0 B8 E : Nat) (stop : Int) (v1 v2 : Value) (o : List (Int × Nat)) (W : World) : Prop where
  doc : DocM B0 D v false ns W
  own : OwM B0 va os W
  b5 : W.heap[P0]? = some (.cells #[.int .i64 stop] 3 (0, 0))
  b6 : W.heap[P0 + 1]? = some (.cells #[.bool false] 4 (0, 0))
  b8 : W.heap[B8]? = some (.cells #[va] 45 (0, 0))
  b10 : W.heap[E]? = some (.cells #[v1] 27 (0, 0))
  b11 : W.heap[E + 1]? = some (.cells #[v2] 27 (0, 0))
  r1 : W.ownsRow B1 3 1 v1 o.length ((fsts o).map (Value.int .i64))
  r2 : W.ownsRow B1 3 1 v2 o.length ((snds o).map (Value.int .i64))
  dlt : ∀ k, DB D v ns k → k < E
  olt : ∀ k, OB va os k → k < E
  plt : P0 + 1 < E
  blt : B8 < E
  lt1 : ∀ k, v1.ownBlock = some k → k < E
  lt2 : ∀ k, v2.ownBlock = some k → k < E
section
variable {B0 B1 D : Nat} {v : Value} {ns : List Nd} {va : Value} {os : List Ow} {P0 B8 E : Nat} {stop : Int} {v1 v2 : Value} {o : List (Int × Nat)} {W W' : World}
theorem LW.keep {S : Nat → Prop} (h : LW B0 B1 D v ns va os P0 B8 E stop v1 v2 o W) (hf : Frm S W W') (hS : ∀ k, S k → E + 2 ≤ k) : LW B0 B1 D v ns va os P0 B8 E stop v1 v2 o W' := by
  have hp := h.plt
  have hb := h.blt
  have bl : ∀ {k : Nat} {x : Obj}, k < E + 2 → W.heap[k]? = some x → W'.heap[k]? = some x := fun hk hx => (hf.block _ (Array.getElem?_eq_some_iff.1 hx).1 (fun e => by have := hS _ e; omega)).trans hx
  exact ⟨h.doc.keep hf (fun k hk e => by have := h.dlt k hk; have := hS k e; omega), h.own.keep hf (fun k hk e => by have := h.olt k hk; have := hS k e; omega), bl (by omega) h.b5, bl (by omega) h.b6, bl (by omega) h.b8, bl (by omega) h.b10, bl (by omega) h.b11,
    hf.own h.r1 (fun k e1 e2 => by have := h.lt1 k e1; have := hS k e2; omega), hf.own h.r2 (fun k e1 e2 => by have := h.lt2 k e1; have := hS k e2; omega), h.dlt, h.olt, h.plt, h.blt, h.lt1, h.lt2⟩
end
/-- what the first range turns -/
structure LI (E : Nat) (W5 : World) (i most : Nat) (wd : ByteArray) (nm : List Int) (W : World) : Prop where
  fr : Frm (SW E) W5 W
  b12 : W.heap[E + 2]? = some (.cells #[.int .i64 i] 3 (0, 0))
  b13 : W.heap[E + 3]? = some (.cells #[.int .i64 most] 3 (0, 0))
  b14 : W.heap[E + 4]? = some (.cells #[.string wd] 9 (0, 0))
  b15 : ∃ vn, W.heap[E + 6]? = some (.cells #[vn] 27 (0, 0)) ∧ W.ownsRow (E + 5) 3 1 vn nm.length (nm.map (Value.int .i64)) ∧ ∀ g, vn.ownBlock = some g → g = E + 5 ∨ E + 14 ≤ g
section
variable {E : Nat} {W5 : World} {i most : Nat} {wd : ByteArray} {nm : List Int} {W W' : World}
theorem LI.keep {S : Nat → Prop} (h : LI E W5 i most wd nm W) (hz : W5.heap.size = E + 9) (hf : Frm S W W') (hS : ∀ k, S k → E + 9 ≤ k ∧ k < E + 14) : LI E W5 i most wd nm W' := by
  have bl : ∀ {k : Nat} {x : Obj}, k < E + 9 → W.heap[k]? = some x → W'.heap[k]? = some x := fun hk hx => (hf.block _ (Array.getElem?_eq_some_iff.1 hx).1 (fun e => by have := hS _ e; omega)).trans hx
  obtain ⟨vn, q1, q2, q3⟩ := h.b15
  exact ⟨h.fr.trans' hf (fun k e => .inr (by have := hS k e; omega)), bl (by omega) h.b12, bl (by omega) h.b13, bl (by omega) h.b14, vn, bl (by omega) q1, hf.own q2 (fun k e1 e2 => by have := q3 k e1; have := hS k e2; omega), q3⟩
theorem LI.box {j : Nat} {u : Value} (h : LI E W5 i most wd nm W) (hj : E + 2 ≤ j ∧ j ≤ E + 6 ∧ j ≠ E + 5) : Frm (SW E) W5 (W.setCell ⟨j, 0, none⟩ u) ∧ (∀ {k : Nat} {x : Obj}, k ≠ j → W.heap[k]? = some x → (W.setCell ⟨j, 0, none⟩ u).heap[k]? = some x) ∧ (∀ vn, W.ownsRow (E + 5) 3 1 vn nm.length (nm.map (Value.int .i64)) → (∀ g, vn.ownBlock = some g → g = E + 5 ∨ E + 14 ≤ g) → (W.setCell ⟨j, 0, none⟩ u).ownsRow (E + 5) 3 1 vn nm.length (nm.map (Value.int .i64))) := by
  have hf : Frm (fun k => k = j) W (W.setCell ⟨j, 0, none⟩ u) := Frm.set _ rfl
  exact ⟨h.fr.trans (hf.mono (fun k e => .inl (by omega))), fun hk hx => (hf.block _ (Array.getElem?_eq_some_iff.1 hx).1 hk).trans hx, fun vn q2 q3 => hf.own q2 (fun k e1 e2 => by have := q3 k e1; omega)⟩
theorem LI.max (h : LI E W5 i most wd nm W) (m : Nat) : LI E W5 i m wd nm (W.setCell ⟨E + 3, 0, none⟩ (.int .i64 m)) := by
  obtain ⟨hf, hb, hr⟩ := h.box (j := E + 3) (u := .int .i64 m) (by omega)
  obtain ⟨vn, q1, q2, q3⟩ := h.b15
  exact ⟨hf, hb (by omega) h.b12, heap_setCell_same _ _ 0 _ _ _ h.b13, hb (by omega) h.b14, vn, hb (by omega) q1, hr vn q2 q3, q3⟩
theorem LI.words (h : LI E W5 i most wd nm W) (x : ByteArray) : LI E W5 i most x nm (W.setCell ⟨E + 4, 0, none⟩ (.string x)) := by
  obtain ⟨hf, hb, hr⟩ := h.box (j := E + 4) (u := .string x) (by omega)
  obtain ⟨vn, q1, q2, q3⟩ := h.b15
  exact ⟨hf, hb (by omega) h.b12, hb (by omega) h.b13, heap_setCell_same _ _ 0 _ _ _ h.b14, vn, hb (by omega) q1, hr vn q2 q3, q3⟩
theorem LI.step (h : LI E W5 i most wd nm W) (m : Nat) : LI E W5 m most wd nm (W.setCell ⟨E + 2, 0, none⟩ (.int .i64 m)) := by
  obtain ⟨hf, hb, hr⟩ := h.box (j := E + 2) (u := .int .i64 m) (by omega)
  obtain ⟨vn, q1, q2, q3⟩ := h.b15
  exact ⟨hf, heap_setCell_same _ _ 0 _ _ _ h.b12, hb (by omega) h.b13, hb (by omega) h.b14, vn, hb (by omega) q1, hr vn q2 q3, q3⟩
theorem LI.drew (h : LI E W5 i most wd nm W) : LI E W5 i most wd nm W.drew := by
  obtain ⟨vn, q1, q2, q3⟩ := h.b15
  exact ⟨h.fr.trans' (Frm.below (S := SW E) (Below.refl _ W).drew) (fun k e => .inl e), h.b12, h.b13, h.b14, vn, q1, (Frm.below (S := fun _ => False) (Below.refl _ W).drew).own q2 (fun _ _ e => e), q3⟩
/-- one more of the name -/
theorem LI.named {W1 W2 : World} {vn vn' : Value} {nm' : List Int} (h : LI E W5 i most wd nm W) (hz : E + 14 ≤ W.heap.size) (q3 : ∀ g, vn.ownBlock = some g → g = E + 5 ∨ E + 14 ≤ g) (hw : Below W.heap.size W W1) (hg : W1.grownBy W2 vn.ownBlock) (hl : vn'.ownBlock = vn.ownBlock ∨ vn'.ownBlock = some W1.heap.size)
    (ho : W2.ownsRow (E + 5) 3 1 vn' nm'.length (nm'.map (Value.int .i64))) : LI E W5 i most wd nm' (W2.setCell ⟨E + 6, 0, none⟩ vn') := by
  have hf1 : Frm (SW E) W W1 := Frm.below hw
  have hs1 := hw.size
  have q4 : ∀ g, vn'.ownBlock = some g → g = E + 5 ∨ E + 14 ≤ g := fun g e => by
    rcases hl with e2 | e2
    · rw [e2] at e; exact q3 g e
    · rw [e2] at e; cases e; omega
  have hf2 : Frm (fun k => k = E + 5 ∨ E + 14 ≤ k) W1 W2 := Frm.grown hg (fun k e => q3 k e)
  have hf3 : Frm (fun k => k = E + 6) W2 (W2.setCell ⟨E + 6, 0, none⟩ vn') := Frm.set _ rfl
  obtain ⟨vn0, p1, _, _⟩ := h.b15
  have bl : ∀ {k : Nat} {x : Obj}, k < E + 14 → k ≠ E + 5 → W.heap[k]? = some x → W2.heap[k]? = some x := fun h1 h2 hx => (hf2.block _ (by have := (Array.getElem?_eq_some_iff.1 hx).1; omega) (by omega)).trans ((hw.block _ (Array.getElem?_eq_some_iff.1 hx).1).trans hx)
  have bl3 : ∀ {k : Nat} {x : Obj}, k ≠ E + 6 → W2.heap[k]? = some x → (W2.setCell ⟨E + 6, 0, none⟩ vn').heap[k]? = some x := fun hk hx => (hf3.block _ (Array.getElem?_eq_some_iff.1 hx).1 hk).trans hx
  refine ⟨((h.fr.trans hf1).trans (hf2.mono (fun k e => ?_))).trans (hf3.mono (fun k e => .inl (by omega))), bl3 (by omega) (bl (by omega) (by omega) h.b12), bl3 (by omega) (bl (by omega) (by omega) h.b13), bl3 (by omega) (bl (by omega) (by omega) h.b14), vn', heap_setCell_same _ _ 0 _ _ _ (bl (by omega) (by omega) p1), hf3.own ho (fun k e1 e2 => by have := q4 k e1; omega), q4⟩
  rcases e with e | e
  · exact .inl (by omega)
  · exact .inr e
/-- what a round of the first range gives back -/
theorem LI.post {B0 B1 D : Nat} {v : Value} {ns : List Nd} {va : Value} {os : List Ow} {P0 B8 : Nat} {stop : Int} {v1 v2 : Value} {o : List (Int × Nat)} (h0 : LW B0 B1 D v ns va os P0 B8 E stop v1 v2 o W) (hz : E + 14 ≤ W.heap.size) (hf : Frm (SW E) W W') :
    (W'.heap[E + 9]? = W.heap[E + 9]? ∧ W'.heap[E + 9 + 1]? = W.heap[E + 9 + 1]?) ∧ KpW (E + 7) B0 D v false ns (E + 9 + 2) W W' := by
  have bl : ∀ k, E + 7 ≤ k → k < E + 14 → W'.heap[k]? = W.heap[k]? := fun k h1 h2 => hf.block k (by omega) (by unfold SW; omega)
  refine ⟨⟨bl _ (by omega) (by omega), bl _ (by omega) (by omega)⟩, hf.size, fun k h1 h2 _ => bl k (by omega) (by omega), fun hs => hs.keep hf (by unfold SW; omega) (fun k hk => ?_)⟩
  have := h0.dlt k hk
  unfold SW
  omega
end
theorem wk_in {ps : List Pl} (h : Tr ps) {i : Nat} {d : Nat} {o : List (Int × Nat)} (hi : i < ps.length) (ho : Wk ps (chQ ps i) d o) : ∀ x ∈ o, 0 ≤ x.1 ∧ x.1 < ps.length := by
  obtain ⟨x, hx⟩ : ∃ x, ps[i]? = some x := ⟨_, List.getElem?_eq_getElem hi⟩
  obtain ⟨q, y, hy, hc, hch, hchn, _⟩ := h.ch hx
  obtain ⟨A, _⟩ := ho.once h hchn (fun c hc => ⟨(hch c hc).1, (hch c hc).2.1⟩) ⟨(q : Int), by omega, fun c hc => (hch c hc).2.2⟩
  exact fun z hz => ⟨(A z.1 (List.mem_map_of_mem hz)).1, (A z.1 (List.mem_map_of_mem hz)).2.1⟩
/-- what is shown next -/
theorem pre_at {o pre : List (Int × Nat)} {k : Int} {d : Nat} (h : (pre ++ [(k, d)]) <+: o) : pre.length < o.length ∧ (fsts o)[pre.length]? = some k ∧ (snds o)[pre.length]? = some (d : Int) ∧ (k, d) ∈ o := by
  obtain ⟨t, rfl⟩ := h
  refine ⟨by simp, ?_, ?_, by simp⟩
  · simp [fsts]
  · simp [snds]
theorem and65W (x : Int) (L : Nat) (h0 : 0 < L) : ∃ a : Nat, (bits BinOp.and IntKind.i64 x 65535).tmod (L : Int) = (a : Int) ∧ a < L := by
  rw [and65L]
  have h1 : (0 : Int) ≤ x % 65536 := by omega
  rw [Int.tmod_eq_emod_of_nonneg h1]
  have h2 := Int.emod_nonneg (x % 65536) (show (L : Int) ≠ 0 by omega)
  have h3 := Int.emod_lt_of_pos (x % 65536) (show (0 : Int) < L by omega)
  exact ⟨((x % 65536) % (L : Int)).toNat, by omega, by omega⟩
/-- nine blocks laid one behind the other; the sixth is an empty row -/
theorem nine_mem (W W7 : World) (x0 x1 x2 x3 x4 x6 x7 x8 : Obj) (h7 : ((((((W.alloc x0).alloc x1).alloc x2).alloc x3).alloc x4).alloc (.cells #[] 3)).alloc x6 = W7) :
    W7.heap.size = W.heap.size + 7 ∧ ((W7.alloc x7).alloc x8).heap.size = W.heap.size + 9 ∧ Below W.heap.size W ((W7.alloc x7).alloc x8) ∧
    ((W7.alloc x7).alloc x8).heap[W.heap.size]? = some x0 ∧ ((W7.alloc x7).alloc x8).heap[W.heap.size + 1]? = some x1 ∧ ((W7.alloc x7).alloc x8).heap[W.heap.size + 2]? = some x2 ∧ ((W7.alloc x7).alloc x8).heap[W.heap.size + 3]? = some x3 ∧ ((W7.alloc x7).alloc x8).heap[W.heap.size + 4]? = some x4 ∧
    ((W7.alloc x7).alloc x8).heap[W.heap.size + 6]? = some x6 ∧ ((W7.alloc x7).alloc x8).heap[W.heap.size + 7]? = some x7 ∧ ((W7.alloc x7).alloc x8).heap[W.heap.size + 8]? = some x8 ∧ ((W7.alloc x7).alloc x8).ownsRow (W.heap.size + 5) 3 1 (.slice (some ⟨W.heap.size + 5, 0, none⟩) 0 0) 0 [] := by
  have st : ∀ (V : World) (x : Obj), (V.alloc x).heap.size = V.heap.size + 1 := fun V x => by simp
  obtain ⟨V5, h5⟩ : ∃ V5, ((((W.alloc x0).alloc x1).alloc x2).alloc x3).alloc x4 = V5 := ⟨_, rfl⟩
  have s5 : V5.heap.size = W.heap.size + 5 := by rw [← h5]; simp
  have hl := World.ownsRow_lit V5 (base := W.heap.size + 5) (e := 3) (size := 1) #[] 0 (by omega) (by decide) rfl
  rw [s5] at hl
  rw [h5] at h7
  have s7 : W7.heap.size = W.heap.size + 7 := by rw [← h7, st, st, s5]
  have b57 : Below V5.heap.size V5 ((W7.alloc x7).alloc x8) := by
    rw [← h7]
    exact ((((Below.refl _ V5).alloc (Nat.le_refl _) _).alloc (by simp only [st]; omega) _).alloc (by simp only [st]; omega) _).alloc (by simp only [st]; omega) _
  have b05 : Below W.heap.size W V5 := by
    rw [← h5]
    exact (((((Below.refl _ W).alloc (Nat.le_refl _) _).alloc (by simp) _).alloc (by simp; omega) _).alloc (by simp; omega) _).alloc (by simp; omega) _
  have b68 : Below (V5.alloc (.cells #[] 3)).heap.size (V5.alloc (.cells #[] 3)) ((W7.alloc x7).alloc x8) := by
    rw [← h7]
    exact (((Below.refl _ _).alloc (Nat.le_refl _) _).alloc (by simp only [st]; omega) _).alloc (by simp only [st]; omega) _
  have nw : ∀ (V : World) (x : Obj) (n : Nat), V.heap.size = n → (V.alloc x).heap[n]? = some x := fun V x n h => by rw [← h]; exact heap_alloc_new V x
  have up : ∀ (V : World) (x : Obj) (n : Nat) (y : Obj), V.heap[n]? = some y → (V.alloc x).heap[n]? = some y := fun V x n y h => (Below.heap_alloc V x n (Array.getElem?_eq_some_iff.1 h).1).trans h
  have e0 : V5.heap[W.heap.size]? = some x0 := by rw [← h5]; exact up _ _ _ _ (up _ _ _ _ (up _ _ _ _ (up _ _ _ _ (nw _ _ _ rfl))))
  have e1 : V5.heap[W.heap.size + 1]? = some x1 := by rw [← h5]; exact up _ _ _ _ (up _ _ _ _ (up _ _ _ _ (nw _ _ _ (st _ _))))
  have e2 : V5.heap[W.heap.size + 2]? = some x2 := by rw [← h5]; exact up _ _ _ _ (up _ _ _ _ (nw _ _ _ (by rw [st, st])))
  have e3 : V5.heap[W.heap.size + 3]? = some x3 := by rw [← h5]; exact up _ _ _ _ (nw _ _ _ (by rw [st, st, st]))
  have e4 : V5.heap[W.heap.size + 4]? = some x4 := by rw [← h5]; exact nw _ _ _ (by rw [st, st, st, st])
  have lift : ∀ {n : Nat} {y : Obj}, V5.heap[n]? = some y → ((W7.alloc x7).alloc x8).heap[n]? = some y := fun h => (b57.block _ (Array.getElem?_eq_some_iff.1 h).1).trans h
  refine ⟨s7, by rw [st, st, s7], b05.trans (b57.mono (by omega)), lift e0, lift e1, lift e2, lift e3, lift e4, ?_, ?_, ?_, own_keep hl b68⟩
  · refine up _ _ _ _ (up _ _ _ _ ?_)
    rw [← h7]
    exact nw _ _ _ (by rw [st, s5])
  · exact up _ _ _ _ (nw _ _ _ s7)
  · exact nw _ _ _ (by rw [st, s7])
end Go.Proofs.Ytodlcfhkiilpgaa
