/- What lies in memory while the law FrameAlls runs. -/
import Derived.Test.YtanbbomdidefjaaRc
import Derived.Test.YtanbbomdidefjaaFt
namespace Go.Proofs.Ytanbbomdidefjaa
open Go.RowKit Go.Shelf

/-- bytes that come in: where, what, how much room -/
structure El where
  A : Option Addr
  d : List Int
  c : Nat
instance : Inhabited El := ⟨⟨none, [], 0⟩⟩
structure ElOk (W : World) (r : El) : Prop where
  rd : Rd W .u8 r.A r.d
  b8 : Byte8 r.d
  nl : r.A = none → r.c = 0
  le : r.d.length ≤ r.c
  mx : r.c ≤ maxLen
def RdL (W : World) (A : Option Addr) (rs : List El) : Prop :=
  rs = [] ∨ ∃ b off, A = some ⟨b, off, none⟩ ∧ b < W.heap.size ∧ ∀ i r, rs[i]? = some r → W.cell? ⟨b, off + i, none⟩ = some (.slice r.A r.d.length r.c) ∧ ElOk W r
theorem RdL.at_ {W : World} {A : Option Addr} {rs : List El} {i : Nat} {r : El} (h : RdL W A rs) (hr : rs[i]? = some r) : ∃ b off, A = some ⟨b, off, none⟩ ∧ b < W.heap.size ∧ W.cell? ⟨b, off + i, none⟩ = some (.slice r.A r.d.length r.c) ∧ ElOk W r := by
  rcases h with rfl | ⟨b, off, h1, h2, h3⟩
  · simp at hr
  · exact ⟨b, off, h1, h2, h3 i r hr⟩
theorem RdL.below {W W' : World} {A : Option Addr} {rs : List El} (h : RdL W A rs) (hb : Below W.heap.size W W') : RdL W' A rs := by
  rcases h with h | ⟨b, off, h1, h2, h3⟩
  · exact .inl h
  · refine .inr ⟨b, off, h1, Nat.lt_of_lt_of_le h2 hb.size, fun i r hi => ?_⟩
    obtain ⟨k1, k2⟩ := h3 i r hi
    exact ⟨(hb.cell (p := ⟨b, off + i, none⟩) h2).trans k1, ⟨k2.rd.below hb, k2.b8, k2.nl, k2.le, k2.mx⟩⟩
abbrev dsOf (rs : List El) : List (List Int) := rs.map (·.d)

/-- the law's boxes, and its two rows: what has been laid of ds, and where each ends -/
structure Fb (w : World) (A : Option Addr) (cap n T : Nat) (vb ve : Value) (q st : Int) (ds : List (List Int)) (W : World) : Prop where
  lb : W.heap[w.heap.size]? = some (.cells #[.slice A n cap] 22 (0, 0))
  cb : W.heap[w.heap.size + 1]? = some (.cells #[.int .i64 q] 3 (0, 0))
  sb : W.heap[w.heap.size + 2]? = some (.cells #[.int .i64 st] 3 (0, 0))
  rb : W.heap[w.heap.size + 3]? = some (.cells #[.bool false] 4 (0, 0))
  eb : W.heap[T + 2]? = some (.cells #[ve] 25 (0, 0))
  br : W.ownsRow T 5 1 vb (bOf ds).length ((bOf ds).map (Value.int .u8))
  er : W.ownsRow T 3 1 ve ds.length ((fe 0 ds).map (fun n : Nat => Value.int .i64 n))
  bw : Below w.heap.size w W
  lt : w.heap.size + 4 ≤ T
section
variable {w : World} {A : Option Addr} {cap n T : Nat} {vb ve : Value} {q st : Int} {ds : List (List Int)} {W W' : World}
theorem Fb.sz (h : Fb w A cap n T vb ve q st ds W) : T + 2 < W.heap.size := (Array.getElem?_eq_some_iff.1 h.eb).1
theorem Fb.cells (h : Fb w A cap n T vb ve q st ds W) : W.cell? ⟨w.heap.size, 0, none⟩ = some (.slice A n cap) ∧ W.cell? ⟨w.heap.size + 1, 0, none⟩ = some (.int .i64 q) ∧ W.cell? ⟨w.heap.size + 1 + 1, 0, none⟩ = some (.int .i64 st) ∧ W.cell? ⟨w.heap.size + 1 + 1 + 1, 0, none⟩ = some (.bool false) ∧ W.cell? ⟨T + 1 + 1, 0, none⟩ = some ve := by
  refine ⟨?_, ?_, ?_, ?_, ?_⟩
  · rw [cell_of_row _ _ _ _ _ _ h.lb]; rfl
  · rw [cell_of_row _ _ _ _ _ _ h.cb]; rfl
  · rw [cell_of_row _ _ _ _ _ _ h.sb]; rfl
  · rw [cell_of_row _ _ _ _ _ _ h.rb]; rfl
  · rw [cell_of_row _ _ _ _ _ _ h.eb]; rfl
theorem Fb.fz (h : Fb w A cap n T vb ve q st ds W) : W.frozen? ⟨w.heap.size + 1, 0, none⟩ = false ∧ W.frozen? ⟨w.heap.size + 1 + 1, 0, none⟩ = false ∧ W.frozen? ⟨w.heap.size + 1 + 1 + 1, 0, none⟩ = false ∧ W.frozen? ⟨T + 1 + 1, 0, none⟩ = false := by
  refine ⟨?_, ?_, ?_, ?_⟩
  · simp [World.frozen?, h.cb]
  · simp [World.frozen?, h.sb]
  · simp [World.frozen?, h.rb]
  · simp [World.frozen?, h.eb]
theorem own_blk {W W' : World} {b sz m : Nat} {e : TypeId} {v : Value} {xs : List Value} (h : W.ownsRow b e sz v m xs) (hk : ∀ g, v.ownBlock = some g → W'.heap[g]? = W.heap[g]?) : W'.ownsRow b e sz v m xs := by
  refine ⟨h.1, ?_⟩
  rcases h.2 with hn | ⟨g, cap, cur, rfl, hb, hgg, rest⟩
  · exact .inl hn
  · exact .inr ⟨g, cap, cur, rfl, hb, (hk g rfl).trans hgg, rest⟩
/-- where what is old lies as it lay -/
theorem Fb.keep {B : Nat} (h : Fb w A cap n T vb ve q st ds W) (hk : ∀ j, j < B → W'.heap[j]? = W.heap[j]?) (hT : T + 2 < B) (h1 : ∀ g, vb.ownBlock = some g → g < B) (h2 : ∀ g, ve.ownBlock = some g → g < B) (hb : Below w.heap.size w W') : Fb w A cap n T vb ve q st ds W' := by
  have hl := h.lt
  exact ⟨(hk _ (by omega)).trans h.lb, (hk _ (by omega)).trans h.cb, (hk _ (by omega)).trans h.sb, (hk _ (by omega)).trans h.rb, (hk _ (by omega)).trans h.eb, own_blk h.br (fun g e => hk g (h1 g e)), own_blk h.er (fun g e => hk g (h2 g e)), hb, hl⟩
theorem Fb.below (h : Fb w A cap n T vb ve q st ds W) (hb : Below W.heap.size W W') : Fb w A cap n T vb ve q st ds W' :=
  h.keep (B := W.heap.size) (fun j hj => hb.block j hj) h.sz (fun g e => (h.br.lt g e).2) (fun g e => (h.er.lt g e).2) (h.bw.trans (hb.mono h.bw.size))
/-- the rows' blocks are others than the boxes -/
theorem Fb.nb (h : Fb w A cap n T vb ve q st ds W) : vb.ownBlock ≠ some (T + 2) ∧ ve.ownBlock ≠ some (T + 2) ∧ ∀ g, vb.ownBlock = some g → ve.ownBlock ≠ some g := by
  refine ⟨fun e => ?_, fun e => ?_, fun g e1 e2 => ?_⟩
  · rcases h.br.2 with ⟨rfl, _⟩ | ⟨g, cp, cur, rfl, _, hg, _⟩
    · cases e
    · simp [Value.ownBlock] at e
      subst e
      have := h.eb
      rw [hg] at this
      injection this with this
      injection this with _ this
      exact absurd this (by decide)
  · rcases h.er.2 with ⟨rfl, _⟩ | ⟨g, cp, cur, rfl, _, hg, _⟩
    · cases e
    · simp [Value.ownBlock] at e
      subst e
      have := h.eb
      rw [hg] at this
      injection this with this
      injection this with _ this
      exact absurd this (by decide)
  · rcases h.br.2 with ⟨rfl, _⟩ | ⟨g1, cp, cur, rfl, _, hg, _⟩
    · cases e1
    rcases h.er.2 with ⟨rfl, _⟩ | ⟨g2, cp2, cur2, rfl, _, hg2, _⟩
    · cases e2
    simp [Value.ownBlock] at e1 e2
    subst e1
    subst e2
    rw [hg] at hg2
    injection hg2 with this
    injection this with _ this
    exact absurd this (by decide)
theorem row_ne_cells {W : World} {b1 m : Nat} {e1 t : TypeId} {v : Value} {xs : List Value} {k : Nat} {c : Array Value} (h1 : W.ownsRow b1 e1 1 v m xs) (h2 : W.heap[k]? = some (.cells c t (0, 0))) (he : e1 ≠ t) : v.ownBlock ≠ some k := by
  intro e
  rcases h1.2 with ⟨rfl, _⟩ | ⟨g, cp, cur, rfl, _, hg, _⟩
  · cases e
  · simp [Value.ownBlock] at e
    subst e
    rw [hg] at h2
    injection h2 with h2
    injection h2 with _ h2
    exact he h2
/-- one round of the first loop -/
theorem Fb.next (h : Fb w A cap n T vb ve q st ds W) {w2 w3 w4 : World} {o : Obj} {vb' ve' : Value} {d : List Int} (h2 : Below W.heap.size W w2)
    (hb : w3.ownsRow T 5 1 vb' ((bOf ds).length + (Fx.frame d).length) ((bOf ds).map (Value.int .u8) ++ (Fx.frame d).map (Value.int .u8))) (g3 : w2.grownBy w3 vb.ownBlock)
    (he : w4.ownsRow T 3 1 ve' (ds.length + 1) ((fe 0 ds).map (fun n : Nat => Value.int .i64 n) ++ [.int .i64 (((bOf ds).length + (Fx.frame d).length : Nat) : Int)])) (g4 : (w3.alloc o).grownBy w4 ve.ownBlock) :
    Fb w A cap n T vb' ve' q st (ds ++ [d]) (w4.setCell ⟨T + 1 + 1, 0, none⟩ ve') := by
  have hl := h.lt
  have hsz := h.sz
  have f2 := h.below h2
  have hs2 := h2.size
  obtain ⟨nb1, nb2, nb3⟩ := f2.nb
  have hs3 := g3.size
  have eb3 : w3.heap[T + 2]? = some (.cells #[ve] 25 (0, 0)) := (g3.block _ (by omega) (fun e => nb1 e.symm)).trans f2.eb
  have er3 : w3.ownsRow T 3 1 ve ds.length ((fe 0 ds).map (fun n : Nat => Value.int .i64 n)) := own_blk f2.er (fun g e => g3.block g (f2.er.lt g e).2 (fun e2 => nb3 g e2.symm e))
  have hs4 := g4.size
  rw [World.size_alloc] at hs4
  have eb4 : w4.heap[T + 2]? = some (.cells #[ve] 25 (0, 0)) := (g4.block _ (by simp; omega) (fun e => row_ne_cells er3 eb3 (by decide) e.symm)).trans ((Below.heap_alloc _ _ _ (by omega)).trans eb3)
  have low : ∀ j, j < T → w4.heap[j]? = W.heap[j]? := fun j hj => (g4.block j (by simp; omega) (fun e => by have := (er3.lt j e.symm).1; omega)).trans ((Below.heap_alloc _ _ _ (by omega)).trans ((g3.block j (by omega) (fun e => by have := (f2.br.lt j e.symm).1; omega)).trans (h2.block j (by omega))))
  have key : ∀ j, j ≠ T + 2 → (w4.setCell ⟨T + 1 + 1, 0, none⟩ ve').heap[j]? = w4.heap[j]? := fun j hj => Below.heap_setCell _ ⟨T + 1 + 1, 0, none⟩ _ j hj
  have br4 : w4.ownsRow T 5 1 vb' ((bOf ds).length + (Fx.frame d).length) ((bOf ds).map (Value.int .u8) ++ (Fx.frame d).map (Value.int .u8)) := by
    refine own_blk (own_blk (W' := w3.alloc o) hb (fun g e => Below.heap_alloc _ _ _ (hb.lt g e).2)) (fun g e => g4.block g (by have := (hb.lt g e).2; simp; omega) (fun e2 => ?_))
    rcases er3.2 with ⟨rfl, _⟩ | ⟨g', cp, cur, rfl, _, hg', _⟩
    · cases e2
    · simp [Value.ownBlock] at e2
      subst e2
      exact row_ne_cells hb hg' (by decide) e
  refine ⟨(key _ (by omega)).trans ((low _ (by omega)).trans h.lb), (key _ (by omega)).trans ((low _ (by omega)).trans h.cb), (key _ (by omega)).trans ((low _ (by omega)).trans h.sb), (key _ (by omega)).trans ((low _ (by omega)).trans h.rb), ?_, ?_, ?_, ?_, hl⟩
  · simp [World.setCell, Array.getElem?_modify, eb4]
  · rw [bOf_snoc, List.length_append, List.map_append]
    exact own_blk br4 (fun g e => key g (fun e2 => row_ne_cells br4 eb4 (by decide) (e2 ▸ e)))
  · rw [fe_snoc, List.map_append, List.length_append, bOf_snoc, List.length_append, Nat.zero_add]
    exact own_blk he (fun g e => key g (fun e2 => row_ne_cells he eb4 (by decide) (e2 ▸ e)))
  · refine ⟨?_, ?_, ?_, ?_, fun j hj => (key _ (by omega)).trans ((low j (by omega)).trans (h.bw.block j hj))⟩
    · exact g4.os.trans (g3.os.trans (h2.os.trans h.bw.os))
    · exact g4.tape.trans (g3.tape.trans (h2.tape.trans h.bw.tape))
    · exact g4.output.trans (g3.output.trans (h2.output.trans h.bw.output))
    · have := h.bw.size; simp; omega
/-- a box of the law turned -/
theorem Fb.setQ (h : Fb w A cap n T vb ve q st ds W) (q' : Int) : Fb w A cap n T vb ve q' st ds (W.setCell ⟨w.heap.size + 1, 0, none⟩ (.int .i64 q')) := by
  have hl := h.lt
  have key : ∀ j, j ≠ w.heap.size + 1 → (W.setCell ⟨w.heap.size + 1, 0, none⟩ (.int .i64 q')).heap[j]? = W.heap[j]? := fun j hj => Below.heap_setCell _ ⟨w.heap.size + 1, 0, none⟩ _ j hj
  exact ⟨(key _ (by omega)).trans h.lb, by simp [World.setCell, Array.getElem?_modify, h.cb], (key _ (by omega)).trans h.sb, (key _ (by omega)).trans h.rb, (key _ (by omega)).trans h.eb, own_blk h.br (fun g e => key g (by have := (h.br.lt g e).1; omega)), own_blk h.er (fun g e => key g (by have := (h.er.lt g e).1; omega)), h.bw.setCell (p := ⟨w.heap.size + 1, 0, none⟩) (by simp) _, hl⟩
theorem Fb.setS (h : Fb w A cap n T vb ve q st ds W) (s' : Int) : Fb w A cap n T vb ve q s' ds (W.setCell ⟨w.heap.size + 1 + 1, 0, none⟩ (.int .i64 s')) := by
  have hl := h.lt
  have key : ∀ j, j ≠ w.heap.size + 1 + 1 → (W.setCell ⟨w.heap.size + 1 + 1, 0, none⟩ (.int .i64 s')).heap[j]? = W.heap[j]? := fun j hj => Below.heap_setCell _ ⟨w.heap.size + 1 + 1, 0, none⟩ _ j hj
  exact ⟨(key _ (by omega)).trans h.lb, (key _ (by omega)).trans h.cb, by simp [World.setCell, Array.getElem?_modify, h.sb], (key _ (by omega)).trans h.rb, (key _ (by omega)).trans h.eb, own_blk h.br (fun g e => key g (by have := (h.br.lt g e).1; omega)), own_blk h.er (fun g e => key g (by have := (h.er.lt g e).1; omega)), h.bw.setCell (p := ⟨w.heap.size + 1 + 1, 0, none⟩) (by simp; omega) _, hl⟩
/-- a number in the rows -/
theorem Fb.end_at (h : Fb w A cap n T vb ve q st ds W) {i e : Nat} (he : (fe 0 ds)[i]? = some e) : ∃ g cp, ve = .slice (some ⟨g, 0, none⟩) ds.length cp ∧ ds.length ≤ cp ∧ cp ≤ maxLen ∧ W.cell? ⟨g, i, none⟩ = some (.int .i64 e) := by
  have hl := (List.getElem?_eq_some_iff.1 he).1
  rw [fe_len] at hl
  rcases h.er.2 with ⟨_, h0⟩ | ⟨g, cp, cur, e1, _, _, hn, hm, _⟩
  · omega
  · have her := h.er
    rw [e1] at her
    refine ⟨g, cp, e1, hn, hm, ?_⟩
    rw [her.cellAt i (by omega), List.getElem?_map, he]
    rfl
/-- the same, with a counter's box behind it all -/
structure FbN (w : World) (A : Option Addr) (cap n T : Nat) (vb ve : Value) (q st : Int) (ds : List (List Int)) (R k : Nat) (W : World) : Prop where
  fb : Fb w A cap n T vb ve q st ds W
  nb : W.heap[R]? = some (.cells #[.int .i64 k] 3 (0, 0))
  h1 : T + 2 < R
  h2 : ∀ g, vb.ownBlock = some g → g < R
  h3 : ∀ g, ve.ownBlock = some g → g < R
variable {R k : Nat}
theorem FbN.keep (h : FbN w A cap n T vb ve q st ds R k W) (hk : ∀ j, j < R + 1 → W'.heap[j]? = W.heap[j]?) (hb : Below w.heap.size w W') : FbN w A cap n T vb ve q st ds R k W' :=
  ⟨h.fb.keep (B := R) (fun j hj => hk j (by omega)) h.h1 h.h2 h.h3 hb, (hk R (by omega)).trans h.nb, h.h1, h.h2, h.h3⟩
theorem FbN.own {B : Nat} (hB : R < B) (f : List Yd → Nat) : OwnFrom B (fun s W => FbN w A cap n T vb ve q st ds R (f s) W) := by
  rintro s X Y row h hg hr
  have hl := (Array.getElem?_eq_some_iff.1 h.nb).1
  have hlt := h.fb.lt
  have h1 := h.h1
  exact h.keep (fun j hj => hg.block j (by omega) (fun e => by have := (hr j e.symm).1; omega)) (h.fb.bw.grown hg h.fb.bw.size (fun r e => by have := (hr r e).1; omega))
theorem FbN.below (h : FbN w A cap n T vb ve q st ds R k W) (hb : Below W.heap.size W W') : FbN w A cap n T vb ve q st ds R k W' := by
  have hl := (Array.getElem?_eq_some_iff.1 h.nb).1
  exact h.keep (fun j hj => hb.block j (by omega)) (h.fb.bw.trans (hb.mono h.fb.bw.size))
theorem FbN.set (h : FbN w A cap n T vb ve q st ds R k W) (k' nq : Nat) : FbN w A cap n T vb ve q st ds R k' ((W.drewN nq).setCell ⟨R, 0, none⟩ (.int .i64 k')) := by
  have key : ∀ j, j ≠ R → ((W.drewN nq).setCell ⟨R, 0, none⟩ (.int .i64 k')).heap[j]? = W.heap[j]? := fun j hj => Below.heap_setCell (W.drewN nq) ⟨R, 0, none⟩ _ j hj
  have hlt := h.fb.lt
  have h1 := h.h1
  refine ⟨h.fb.keep (B := R) (fun j hj => key j (by omega)) h.h1 h.h2 h.h3 ((below_drewN h.fb.bw nq).setCell (p := ⟨R, 0, none⟩) (by simp; omega) _), ?_, h.h1, h.h2, h.h3⟩
  simp [World.setCell, Array.getElem?_modify, h.nb]
theorem FbN.setS (h : FbN w A cap n T vb ve q st ds R k W) (s' : Int) (nq : Nat) : FbN w A cap n T vb ve q s' ds R k ((W.drewN nq).setCell ⟨w.heap.size + 1 + 1, 0, none⟩ (.int .i64 s')) := by
  have h0 : Fb w A cap n T vb ve q st ds (W.drewN nq) := h.fb.below (below_drewN (Below.refl _ W) nq)
  have hlt := h.fb.lt
  have h1 := h.h1
  exact ⟨h0.setS s', (Below.heap_setCell (W.drewN nq) ⟨w.heap.size + 1 + 1, 0, none⟩ _ R (by simp; omega)).trans h.nb, h.h1, h.h2, h.h3⟩
theorem FbN.setP (h : FbN w A cap n T vb ve q st ds R k W) (k' : Nat) : FbN w A cap n T vb ve q st ds R k' (W.setCell ⟨R, 0, none⟩ (.int .i64 k')) := by
  have key : ∀ j, j ≠ R → (W.setCell ⟨R, 0, none⟩ (.int .i64 k')).heap[j]? = W.heap[j]? := fun j hj => Below.heap_setCell W ⟨R, 0, none⟩ _ j hj
  have hlt := h.fb.lt
  have h1 := h.h1
  refine ⟨h.fb.keep (B := R) (fun j hj => key j (by omega)) h.h1 h.h2 h.h3 (h.fb.bw.setCell (p := ⟨R, 0, none⟩) (by simp; omega) _), ?_, h.h1, h.h2, h.h3⟩
  simp [World.setCell, Array.getElem?_modify, h.nb]
/-- the second loop: its counter behind it all, and the first loop's deferred calls -/
structure Fi (w : World) (A : Option Addr) (cap n T : Nat) (vb ve : Value) (q st : Int) (ds : List (List Int)) (R k D R2 j : Nat) (W : World) : Prop where
  fn : FbN w A cap n T vb ve q st ds R k W
  kb : W.heap[R2]? = some (.cells #[.int .i64 j] 3 (0, 0))
  dd : W.heap[D]? = some (.deferred (some []))
  h1 : R < D
  h2 : D < R2
variable {D R2 j : Nat}
theorem Fi.keep (h : Fi w A cap n T vb ve q st ds R k D R2 j W) (hk : ∀ i, i < R2 + 1 → W'.heap[i]? = W.heap[i]?) (hb : Below w.heap.size w W') : Fi w A cap n T vb ve q st ds R k D R2 j W' := by
  have h1 := h.h1
  have h2 := h.h2
  exact ⟨h.fn.keep (fun i hi => hk i (by omega)) hb, (hk _ (by omega)).trans h.kb, (hk _ (by omega)).trans h.dd, h1, h2⟩
theorem Fi.own {B : Nat} (hB : R2 < B) (f : List Yd → Nat) : OwnFrom B (fun s W => Fi w A cap n T vb ve q st ds R k D R2 (f s) W) := by
  rintro s X Y row h hg hr
  have hl := (Array.getElem?_eq_some_iff.1 h.kb).1
  have h1 := h.h1
  have h2 := h.h2
  have h3 := h.fn.h1
  have h4 := h.fn.fb.lt
  exact h.keep (fun i hi => hg.block i (by omega) (fun e => by have := (hr i e.symm).1; omega)) (h.fn.fb.bw.grown hg h.fn.fb.bw.size (fun r e => by have := (hr r e).1; omega))
theorem Fi.below (h : Fi w A cap n T vb ve q st ds R k D R2 j W) (hb : Below W.heap.size W W') : Fi w A cap n T vb ve q st ds R k D R2 j W' := by
  have hl := (Array.getElem?_eq_some_iff.1 h.kb).1
  exact h.keep (fun i hi => hb.block i (by omega)) (h.fn.fb.bw.trans (hb.mono h.fn.fb.bw.size))
theorem Fi.set (h : Fi w A cap n T vb ve q st ds R k D R2 j W) (j' : Nat) : Fi w A cap n T vb ve q st ds R k D R2 j' (W.setCell ⟨R2, 0, none⟩ (.int .i64 j')) := by
  have key : ∀ i, i ≠ R2 → (W.setCell ⟨R2, 0, none⟩ (.int .i64 j')).heap[i]? = W.heap[i]? := fun i hi => Below.heap_setCell W ⟨R2, 0, none⟩ _ i hi
  have h1 := h.h1
  have h2 := h.h2
  have h3 := h.fn.h1
  have h4 := h.fn.fb.lt
  refine ⟨h.fn.keep (fun i hi => key i (by omega)) (h.fn.fb.bw.setCell (p := ⟨R2, 0, none⟩) (by simp; omega) _), ?_, (key _ (by omega)).trans h.dd, h1, h2⟩
  simp [World.setCell, Array.getElem?_modify, h.kb]
/-- how the law ends: the answer stands in its box, and the two lists of deferred calls are taken away -/
theorem law_end (h : Fi w A cap n T vb ve q st ds R k D R2 j W) {D2 : Nat} (h2 : W.heap[D2]? = some (.deferred (some []))) (hD : R2 < D2) (nq : Nat) :
    (fun e w' => e = Ending.returned (.bool true) ∧ Below w.heap.size w w') (.returned (.bool true)) ((((W.drewN nq).setCell ⟨w.heap.size + 1 + 1 + 1, 0, none⟩ (.bool true)).putObj D2 (.deferred none)).putObj D (.deferred none)) ∧
      ((W.drewN nq).setCell ⟨w.heap.size + 1 + 1 + 1, 0, none⟩ (.bool true)).heap[D2]? = some (.deferred (some [])) ∧
      (((W.drewN nq).setCell ⟨w.heap.size + 1 + 1 + 1, 0, none⟩ (.bool true)).putObj D2 (.deferred none)).heap[D]? = some (.deferred (some [])) ∧
      ((((W.drewN nq).setCell ⟨w.heap.size + 1 + 1 + 1, 0, none⟩ (.bool true)).putObj D2 (.deferred none)).putObj D (.deferred none)).cell? ⟨w.heap.size + 1 + 1 + 1, 0, none⟩ = some (.bool true) := by
  have a1 := h.h1
  have a2 := h.h2
  have a3 := h.fn.h1
  have a4 := h.fn.fb.lt
  have key : ∀ i, i ≠ w.heap.size + 3 → ((W.drewN nq).setCell ⟨w.heap.size + 1 + 1 + 1, 0, none⟩ (.bool true)).heap[i]? = W.heap[i]? := fun i hi => Below.heap_setCell (W.drewN nq) ⟨w.heap.size + 1 + 1 + 1, 0, none⟩ _ i hi
  have e2 := (key D2 (by omega)).trans h2
  have e1 : (((W.drewN nq).setCell ⟨w.heap.size + 1 + 1 + 1, 0, none⟩ (.bool true)).putObj D2 (.deferred none)).heap[D]? = some (.deferred (some [])) := (World.putObj_heap_other (by omega)).trans ((key D (by omega)).trans h.dd)
  have hb : Below w.heap.size w ((W.drewN nq).setCell ⟨w.heap.size + 1 + 1 + 1, 0, none⟩ (.bool true)) := (below_drewN h.fn.fb.bw nq).setCell (p := ⟨w.heap.size + 1 + 1 + 1, 0, none⟩) (by simp; omega) _
  have hb2 := hb.grown (grownBy_putObj' _ D2 (.deferred none)) hb.size (fun r e => by cases e; omega)
  refine ⟨⟨rfl, hb2.grown (grownBy_putObj' _ D (.deferred none)) hb2.size (fun r e => by cases e; omega)⟩, e2, e1, ?_⟩
  have r1 : ((W.drewN nq).setCell ⟨w.heap.size + 1 + 1 + 1, 0, none⟩ (.bool true)).heap[w.heap.size + 3]? = some (.cells #[.bool true] 4 (0, 0)) := by
    simp [World.setCell, Array.getElem?_modify, h.fn.fb.rb]
  have r2 : ((((W.drewN nq).setCell ⟨w.heap.size + 1 + 1 + 1, 0, none⟩ (.bool true)).putObj D2 (.deferred none)).putObj D (.deferred none)).heap[w.heap.size + 3]? = some (.cells #[.bool true] 4 (0, 0)) := by
    rw [World.putObj_heap_other (by omega), World.putObj_heap_other (by omega)]
    exact r1
  rw [cell_of_row _ _ _ _ _ _ r2]
  rfl
theorem keeps_drewN (W : World) (nq : Nat) : KeepsOthers W (W.drewN nq) := ⟨Nat.le_refl _, fun _ _ h _ => h⟩
theorem SrcF.setFar {B0 g cp : Nat} {c : List Int} (h : SrcF B0 (some ⟨g, 0, none⟩) cp c W) (hB : R < B0) (hg : R < g) (v : Value) : SrcF B0 (some ⟨g, 0, none⟩) cp c (W.setCell ⟨R, 0, none⟩ v) := by
  have key : ∀ j, j ≠ R → (W.setCell ⟨R, 0, none⟩ v).heap[j]? = W.heap[j]? := fun j hj => Below.heap_setCell W ⟨R, 0, none⟩ _ j hj
  exact ⟨(key _ (by omega)).trans h.box, h.rd.blocks (by simp) (fun ad had hlt => key _ (by injection had with had; subst had; simp; omega))⟩
theorem SrcF.drewN {B0 g cp : Nat} {c : List Int} (h : SrcF B0 (some ⟨g, 0, none⟩) cp c W) (nq : Nat) : SrcF B0 (some ⟨g, 0, none⟩) cp c (W.drewN nq) := ⟨h.box, h.rd.below (below_drewN (Below.refl _ W) nq)⟩
/-- texts of bytes that are alike are of bytes that are alike -/
theorem strn_inj {l m : List Int} (hl : Byte8 l) (hm : Byte8 m) (h : strOfNums l = strOfNums m) : l = m := by
  rw [← bs_of hl, ← bs_of hm, h]
end
theorem bOf_byte (rs : List El) {w : World} {A : Option Addr} (h : RdL w A rs) : Byte8 (bOf (dsOf rs)) := by
  intro x hx
  unfold bOf at hx
  rw [List.mem_flatMap] at hx
  obtain ⟨d, hd, hxd⟩ := hx
  rw [List.mem_map] at hd
  obtain ⟨r, hr, rfl⟩ := hd
  obtain ⟨i, hi⟩ := List.getElem?_of_mem hr
  obtain ⟨_, _, _, _, _, hok⟩ := h.at_ hi
  exact frame_byte hok.b8 x hxd
theorem str_ext {a b : ByteArray} (h : a.toList = b.toList) : a = b := by
  rw [ByteArray.toList_eq, ByteArray.toList_eq] at h
  exact ByteArray.ext (Array.toList_inj.1 h)
theorem pre_yf {ys : List (Nat × List Int)} {pre : List Yd} {x : Yd} {y : Nat × List Int} (h : pre.map yf <+: ys) (hy : ys[pre.length]? = some y) : ((pre ++ [x]).map yf <+: ys) ↔ yf x = y := by
  obtain ⟨t, rfl⟩ := h
  rw [List.getElem?_append_right (by simp), List.length_map, Nat.sub_self] at hy
  cases t with
  | nil => simp at hy
  | cons z t =>
    simp at hy
    subst hy
    rw [List.map_append]
    constructor
    · rintro ⟨u, hu⟩
      rw [List.append_assoc, List.append_cancel_left_eq] at hu
      simp at hu
      exact hu.1
    · intro e
      exact ⟨t, by simp [← e]⟩
end Go.Proofs.Ytanbbomdidefjaa
