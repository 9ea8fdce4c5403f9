/- What lies in memory behind the loop of the law PathTables: a box that counts, beside all else. -/
import Derived.Test.YtfkbjniodomdjaaDoorQj
import Derived.RangeFuncFrom
import Derived.Laws.BitsLemmas
namespace Go.Proofs.YtfkbjniodomdjaaDoor
open Go.RowKit Go.Shelf Go.Lib

theorem i64_and7 (n : Int) : bits .and .i64 n 7 = n % 8 := by
  have key : (BitVec.ofInt 64 n &&& BitVec.ofInt 64 7).toNat = (n % ((2 ^ 64 : Nat) : Int)).toNat % 2 ^ 3 := by
    rw [BitVec.toNat_and, BitVec.toNat_ofInt, show (BitVec.ofInt 64 7).toNat = 2 ^ 3 - 1 from by decide, Nat.and_two_pow_sub_one_eq_mod]
  show IntKind.i64.wrap ((BitVec.ofInt 64 n &&& BitVec.ofInt 64 7).toNat : Nat) = n % 8
  rw [key, IntKind.wrap_i64]
  omega
section
variable {w : World} {stop : Int} {T0 T : Nat} {v1 v2 vn : Value} {ns : List ByteArray} {V : ByteArray → Option Int} {m : Nat} {W W' : World}
/-- what lies beyond R may turn -/
theorem PT.above {S : Nat → Prop} {R : Nat} (h : PT w stop T0 T v1 v2 ns V vn m W) (hR : T0 + 4 < R) (hts : ∀ j, TS T v1 v2 j → j < R) (hvn : ∀ g, vn.ownBlock = some g → g < R) (hf : Frm S W W') (hS : ∀ j, S j → R ≤ j) : PT w stop T0 T v1 v2 ns V vn m W' := by
  have hs := h.sz
  have hl := h.lt
  have hx : ∀ k, k < R → k < W.heap.size → W'.heap[k]? = W.heap[k]? := fun k h1 h2 => hf.block k h2 (fun e => by have := hS k e; omega)
  exact ⟨h.tab.keep hf (fun k hk e => by have := hts k hk; have := hS k e; omega), hf.own h.row (fun g e1 e2 => by have := hvn g e1; have := hS g e2; omega), h.rne, (hx _ (by omega) (by omega)).trans h.nbx, (hx _ (by omega) (by omega)).trans h.mbx, h.mp.ofBlock (hx _ (by omega) (by omega)), (hx _ (by omega) (by omega)).trans h.res, (hx _ (by omega) (by omega)).trans h.stp, h.bw.trans (hf.toBelow (by omega) (fun k hk => by have := hS k hk; omega)), hl, h.srt, h.mem⟩
/-- the box of the number where to stop, turned -/
theorem PT.restop (h : PT w stop T0 T v1 v2 ns V vn m W) (z : Int) : PT w z T0 T v1 v2 ns V vn m (W.setCell ⟨w.heap.size, 0, none⟩ (.int .i64 z)) := by
  obtain ⟨n1, n2, n3, n4, n5⟩ := h.nt
  have hs := h.sz
  have hl := h.lt
  have hF : Frm (fun k => k = w.heap.size) W (W.setCell ⟨w.heap.size, 0, none⟩ (.int .i64 z)) := Frm.set _ rfl
  have hx : ∀ k, k ≠ w.heap.size → k < W.heap.size → (W.setCell ⟨w.heap.size, 0, none⟩ (.int .i64 z)).heap[k]? = W.heap[k]? := fun k h1 h2 => hF.block k h2 h1
  exact ⟨h.tab.keep hF (fun k hk e => n4 (e ▸ hk)), hF.own h.row (fun g e1 e2 => by have := (h.row.lt g e1).1; omega), h.rne, (hx _ (by omega) (by omega)).trans h.nbx, (hx _ (by omega) (by omega)).trans h.mbx, h.mp.ofBlock (hx _ (by omega) (by omega)), (hx _ (by omega) (by omega)).trans h.res, heap_setCell_same _ _ 0 _ _ _ h.stp, h.bw.setCell (p := ⟨w.heap.size, 0, none⟩) (Nat.le_refl _) _, hl, h.srt, h.mem⟩
end
/-- a box R that holds k, beside all that the law has -/
structure PF (w : World) (stop : Int) (T0 T : Nat) (v1 v2 : Value) (ns : List ByteArray) (V : ByteArray → Option Int) (vn : Value) (m R k : Nat) (W : World) : Prop where
  pt : PT w stop T0 T v1 v2 ns V vn m W
  kb : W.heap[R]? = some (.cells #[.int .i64 k] 3 (0, 0))
  gt : T0 + 4 < R
  ts : ∀ j, TS T v1 v2 j → j < R
  vb : ∀ g, vn.ownBlock = some g → g < R
section
variable {w : World} {stop : Int} {T0 T R k B : Nat} {v1 v2 vn : Value} {ns : List ByteArray} {V : ByteArray → Option Int} {m : Nat} {W W' : World}
theorem PF.keep {S : Nat → Prop} (h : PF w stop T0 T v1 v2 ns V vn m R k W) (hf : Frm S W W') (hS : ∀ j, S j → R < j) : PF w stop T0 T v1 v2 ns V vn m R k W' :=
  ⟨h.pt.above h.gt h.ts h.vb hf (fun j hj => by have := hS j hj; omega), (hf.block R (Array.getElem?_eq_some_iff.1 h.kb).1 (fun e => by have := hS R e; omega)).trans h.kb, h.gt, h.ts, h.vb⟩
theorem PF.below (h : PF w stop T0 T v1 v2 ns V vn m R k W) (hb : Below W.heap.size W W') : PF w stop T0 T v1 v2 ns V vn m R k W' :=
  h.keep (S := fun _ => False) (Frm.below hb) (fun _ e => e.elim)
theorem PF.own (hB : R < B) (f : List (ByteArray × Int) → Nat) : OwnFrom B (fun s W => PF w stop T0 T v1 v2 ns V vn m R (f s) W) := by
  rintro s X Y row h hg hr
  exact h.keep (S := fun j => row = some j) (Frm.grown hg (fun j e => e)) (fun j e => by have := (hr j e).1; omega)
theorem PF.set (h : PF w stop T0 T v1 v2 ns V vn m R k W) (k' : Nat) : PF w stop T0 T v1 v2 ns V vn m R k' (W.setCell ⟨R, 0, none⟩ (.int .i64 k')) :=
  ⟨h.pt.above h.gt h.ts h.vb (S := fun j => j = R) (Frm.set _ rfl) (fun j e => by omega), heap_setCell_same _ R 0 _ _ _ h.kb, h.gt, h.ts, h.vb⟩
theorem PF.cells (h : PF w stop T0 T v1 v2 ns V vn m R k W) : W.cell? ⟨R, 0, none⟩ = some (.int .i64 k) ∧ W.frozen? ⟨R, 0, none⟩ = false ∧ W.cell? ⟨T0 + 1 + 1, 0, none⟩ = some vn ∧ W.cell? ⟨T0 + 1 + 1 + 1 + 1, 0, none⟩ = some (.map (some (T0 + 1 + 1 + 1))) ∧ W.cell? ⟨w.heap.size + 1, 0, none⟩ = some (.bool false) ∧ W.frozen? ⟨w.heap.size + 1, 0, none⟩ = false ∧ W.cell? ⟨w.heap.size, 0, none⟩ = some (.int .i64 stop) ∧ W.frozen? ⟨w.heap.size, 0, none⟩ = false := by
  obtain ⟨c1, c2, c3, c4⟩ := h.pt.cells
  obtain ⟨_, f2, f3⟩ := h.pt.fz
  exact ⟨by rw [cell_of_row _ _ _ _ _ _ h.kb]; rfl, by simp [World.frozen?, h.kb], c1, c2, c3, f2, c4, f3⟩
/-- the law's own names, one by one -/
theorem PF.name {bq cn j : Nat} {y : ByteArray} (h : PF w stop T0 T v1 v2 ns V (.slice (some ⟨bq, 0, none⟩) ns.length cn) m R k W) (hy : ns[j]? = some y) : W.cell? ⟨bq, j, none⟩ = some (.string y) := by
  have h1 := h.pt.row.cells (g := bq) rfl j (.string y) (by rw [List.getElem?_map, hy]; rfl)
  rwa [Addr.add_lit, Nat.zero_add] at h1
end
/-- an element that comes next -/
theorem next_of {ns : List ByteArray} {V : ByteArray → Option Int} {pre : List (ByteArray × Int)} {x : ByteArray × Int} (h : pre ++ [x] <+: ns.zip (thg ns V)) : ns[pre.length]? = some x.1 ∧ x.2 = (V x.1).getD 0 := by
  obtain ⟨t, ht⟩ := h
  have h1 : (ns.zip (thg ns V))[pre.length]? = some x := by
    rw [← ht, List.append_assoc, List.getElem?_append_right (Nat.le_refl _), Nat.sub_self]
    rfl
  rw [List.getElem?_zip_eq_some] at h1
  obtain ⟨h2, h3⟩ := h1
  refine ⟨h2, ?_⟩
  rw [List.getElem?_map, h2] at h3
  simp at h3
  exact h3.symm
/-- a second box R2 that holds k, and a list D of what is deferred -/
structure P2 (w : World) (stop : Int) (T0 T : Nat) (v1 v2 : Value) (ns : List ByteArray) (V : ByteArray → Option Int) (vn : Value) (m R n D R2 k : Nat) (W : World) : Prop where
  pf : PF w stop T0 T v1 v2 ns V vn m R n W
  kb : W.heap[R2]? = some (.cells #[.int .i64 k] 3 (0, 0))
  dd : W.heap[D]? = some (.deferred (some []))
  h1 : R < D
  h2 : D < R2
section
variable {w : World} {stop : Int} {T0 T R k B n D R2 : Nat} {v1 v2 vn : Value} {ns : List ByteArray} {V : ByteArray → Option Int} {m : Nat} {W W' : World}
theorem P2.own (hB : R2 < B) (f : List (ByteArray × Int) → Nat) : OwnFrom B (fun s W => P2 w stop T0 T v1 v2 ns V vn m R n D R2 (f s) W) := by
  rintro s X Y row h hg hr
  have hf : Frm (fun j => row = some j) X Y := Frm.grown hg (fun j e => e)
  have a1 := h.h1
  have a2 := h.h2
  exact ⟨h.pf.keep hf (fun j e => by have := (hr j e).1; omega), (hf.block R2 (Array.getElem?_eq_some_iff.1 h.kb).1 (fun e => by have := (hr _ e).1; omega)).trans h.kb, (hf.block D (Array.getElem?_eq_some_iff.1 h.dd).1 (fun e => by have := (hr _ e).1; omega)).trans h.dd, a1, a2⟩
theorem P2.set (h : P2 w stop T0 T v1 v2 ns V vn m R n D R2 k W) (k' : Nat) : P2 w stop T0 T v1 v2 ns V vn m R n D R2 k' (W.setCell ⟨R2, 0, none⟩ (.int .i64 k')) := by
  have a1 := h.h1
  have a2 := h.h2
  have hf : Frm (fun j => j = R2) W (W.setCell ⟨R2, 0, none⟩ (.int .i64 k')) := Frm.set _ rfl
  exact ⟨h.pf.keep hf (fun j e => by omega), heap_setCell_same _ R2 0 _ _ _ h.kb, (hf.block D (Array.getElem?_eq_some_iff.1 h.dd).1 (by omega)).trans h.dd, a1, a2⟩
theorem law_end (h : P2 w stop T0 T v1 v2 ns V vn m R n D R2 k W) {D2 : Nat} (h2 : W.heap[D2]? = some (.deferred (some []))) (hD : R2 < D2) :
    (fun e w' => e = Ending.returned (.bool true) ∧ Below w.heap.size w w') (.returned (.bool true)) (((W.setCell ⟨w.heap.size + 1, 0, none⟩ (.bool true)).putObj D2 (.deferred none)).putObj D (.deferred none)) ∧
      (W.setCell ⟨w.heap.size + 1, 0, none⟩ (.bool true)).heap[D2]? = some (.deferred (some [])) ∧
      ((W.setCell ⟨w.heap.size + 1, 0, none⟩ (.bool true)).putObj D2 (.deferred none)).heap[D]? = some (.deferred (some [])) ∧
      (((W.setCell ⟨w.heap.size + 1, 0, none⟩ (.bool true)).putObj D2 (.deferred none)).putObj D (.deferred none)).cell? ⟨w.heap.size + 1, 0, none⟩ = some (.bool true) := by
  have a1 := h.h1
  have a2 := h.h2
  have a3 := h.pf.gt
  have a4 := h.pf.pt.lt
  have key : ∀ i, i ≠ w.heap.size + 1 → (W.setCell ⟨w.heap.size + 1, 0, none⟩ (.bool true)).heap[i]? = W.heap[i]? := fun i hi => Below.heap_setCell W ⟨w.heap.size + 1, 0, none⟩ _ i hi
  have e2 := (key D2 (by omega)).trans h2
  have e1 : ((W.setCell ⟨w.heap.size + 1, 0, none⟩ (.bool true)).putObj D2 (.deferred none)).heap[D]? = some (.deferred (some [])) := (World.putObj_heap_other (by omega)).trans ((key D (by omega)).trans h.dd)
  have hb : Below w.heap.size w (W.setCell ⟨w.heap.size + 1, 0, none⟩ (.bool true)) := h.pf.pt.bw.setCell (p := ⟨w.heap.size + 1, 0, none⟩) (by simp) _
  have hb2 := hb.grown (grownBy_putObj' _ D2 (.deferred none)) hb.size (fun r e => by cases e; omega)
  refine ⟨⟨rfl, hb2.grown (grownBy_putObj' _ D (.deferred none)) hb2.size (fun r e => by cases e; omega)⟩, e2, e1, ?_⟩
  have r1 : (W.setCell ⟨w.heap.size + 1, 0, none⟩ (.bool true)).heap[w.heap.size + 1]? = some (.cells #[.bool true] 4 (0, 0)) := heap_setCell_same _ _ 0 _ _ _ h.pf.pt.res
  have r2 : (((W.setCell ⟨w.heap.size + 1, 0, none⟩ (.bool true)).putObj D2 (.deferred none)).putObj D (.deferred none)).heap[w.heap.size + 1]? = some (.cells #[.bool true] 4 (0, 0)) := by
    rw [World.putObj_heap_other (by omega), World.putObj_heap_other (by omega)]
    exact r1
  rw [cell_of_row _ _ _ _ _ _ r2]
  rfl
end
end Go.Proofs.YtfkbjniodomdjaaDoor
