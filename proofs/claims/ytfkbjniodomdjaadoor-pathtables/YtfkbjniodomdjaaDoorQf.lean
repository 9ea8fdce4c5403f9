/- What lies in memory while the law PathTables runs. -/
import Derived.Test.YtfkbjniodomdjaaDoorQe
import Derived.Test.YtfkbjniodomdjaaDoorKm
import Derived.Test.YtfkbjniodomdjaaDoorQn
namespace Go.Proofs.YtfkbjniodomdjaaDoor
open Go.RowKit Go.Shelf Go.Lib

/-- what the table has under its names -/
abbrev thg (ns : List ByteArray) (V : ByteArray → Option Int) : List Int := ns.map (fun s => (V s).getD 0)
structure PT (w : World) (stop : Int) (T0 T : Nat) (v1 v2 : Value) (ns : List ByteArray) (V : ByteArray → Option Int) (vn : Value) (m : Nat) (W : World) : Prop where
  tab : TSI T0 T v1 v2 ns (thg ns V) W
  row : W.ownsRow T0 9 1 vn ns.length (ns.map Value.string)
  rne : ∀ g, vn.ownBlock = some g → ¬ TS T v1 v2 g
  nbx : W.heap[T0 + 2]? = some (.cells #[vn] 25 (0, 0))
  mbx : W.heap[T0 + 4]? = some (.cells #[.map (some (T0 + 3))] 29 (0, 0))
  mp : MapN W (T0 + 3) m V
  res : W.heap[w.heap.size + 1]? = some (.cells #[.bool false] 4 (0, 0))
  stp : W.heap[w.heap.size]? = some (.cells #[.int .i64 stop] 3 (0, 0))
  bw : Below w.heap.size w W
  lt : w.heap.size + 2 ≤ T0
  srt : Srt ltS ns
  mem : ∀ s, (V s).isSome = true ↔ s ∈ ns
theorem Tab.notTy {tt e1 e2 : TypeId} {base T : Nat} {v1 v2 : Value} {xs ys : List Value} {W : World} (h : Tab tt e1 e2 base T v1 v2 xs ys W) {k : Nat} {c : Array Value} {t : TypeId} (hk : W.heap[k]? = some (.cells c t (0, 0))) (h0 : t ≠ tt) (h1 : t ≠ e1) (h2 : t ≠ e2) : ¬ TS T v1 v2 k :=
  h.notTS hk (fun e => by
    subst e
    have := h.hd
    rw [hk] at this
    injection this with this
    injection this with _ this
    exact h0 this) h1 h2
theorem MapN.blk {w : World} {b n : Nat} {V : ByteArray → Option Int} (h : MapN w b n V) : ∃ o : Obj, w.heap[b]? = some o ∧ o.isCells = false := by
  obtain ⟨D, ⟨es, cl, h1, h2⟩, h3⟩ := h
  exact ⟨_, h1, rfl⟩
section
variable {w : World} {stop : Int} {T0 T : Nat} {v1 v2 vn : Value} {ns : List ByteArray} {V : ByteArray → Option Int} {m : Nat} {W W' : World}
theorem PT.sz (h : PT w stop T0 T v1 v2 ns V vn m W) : T0 + 4 < W.heap.size := (Array.getElem?_eq_some_iff.1 h.mbx).1
theorem PT.nt (h : PT w stop T0 T v1 v2 ns V vn m W) : ¬ TS T v1 v2 (T0 + 2) ∧ ¬ TS T v1 v2 (T0 + 3) ∧ ¬ TS T v1 v2 (T0 + 4) ∧ ¬ TS T v1 v2 (w.heap.size) ∧ ¬ TS T v1 v2 (w.heap.size + 1) := by
  obtain ⟨o, ho, hc⟩ := h.mp.blk
  have hl := h.lt
  exact ⟨h.tab.notTy h.nbx (by decide) (by decide) (by decide), h.tab.notTS' ho hc, h.tab.notTy h.mbx (by decide) (by decide) (by decide), fun hs => by have := (h.tab.in_ _ hs).1; omega, fun hs => by have := (h.tab.in_ _ hs).1; omega⟩
/-- all but the table, behind a call that turns the table alone -/
theorem PT.far (h : PT w stop T0 T v1 v2 ns V vn m W) (hf : Frm (TS T v1 v2) W W') :
    W'.ownsRow T0 9 1 vn ns.length (ns.map Value.string) ∧ W'.heap[T0 + 2]? = some (.cells #[vn] 25 (0, 0)) ∧ W'.heap[T0 + 4]? = some (.cells #[.map (some (T0 + 3))] 29 (0, 0)) ∧ MapN W' (T0 + 3) m V ∧ W'.heap[w.heap.size + 1]? = some (.cells #[.bool false] 4 (0, 0)) ∧ W'.heap[w.heap.size]? = some (.cells #[.int .i64 stop] 3 (0, 0)) ∧ Below w.heap.size w W' := by
  obtain ⟨n1, n2, n3, n4, n5⟩ := h.nt
  have hs := h.sz
  have hl := h.lt
  exact ⟨hf.own h.row h.rne, (hf.block _ (by omega) n1).trans h.nbx, (hf.block _ (by omega) n3).trans h.mbx, h.mp.ofBlock (hf.block _ (by omega) n2), (hf.block _ (by omega) n5).trans h.res, (hf.block _ (by omega) n4).trans h.stp, h.bw.trans (hf.toBelow (by omega) (fun k hk => by have := (h.tab.in_ k hk).1; omega))⟩
theorem PT.below (h : PT w stop T0 T v1 v2 ns V vn m W) (hb : Below W.heap.size W W') : PT w stop T0 T v1 v2 ns V vn m W' := by
  have hs := h.sz
  have hl := h.lt
  exact ⟨h.tab.below hb, own_keepT h.row hb, h.rne, (hb.block _ (by omega)).trans h.nbx, (hb.block _ (by omega)).trans h.mbx, h.mp.ofBlock (hb.block _ (by omega)), (hb.block _ (by omega)).trans h.res, (hb.block _ (by omega)).trans h.stp, h.bw.trans (hb.mono (by omega)), hl, h.srt, h.mem⟩
theorem PT.more {m' : Nat} (h : PT w stop T0 T v1 v2 ns V vn m W) (hm : m ≤ m') : PT w stop T0 T v1 v2 ns V vn m' W :=
  ⟨h.tab, h.row, h.rne, h.nbx, h.mbx, h.mp.mono hm, h.res, h.stp, h.bw, h.lt, h.srt, h.mem⟩
theorem thg_at (ns : List ByteArray) (V : ByteArray → Option Int) (O : Ord ltS) (hs : Srt ltS ns) {x : ByteArray} (hx : x ∈ ns) : (thg ns V)[plc ltS ns x]?.getD 0 = (V x).getD 0 := by
  rw [List.getElem?_map, plc_at O ns x hs hx]
  rfl
theorem PT.cells (h : PT w stop T0 T v1 v2 ns V vn m W) : W.cell? ⟨T0 + 1 + 1, 0, none⟩ = some vn ∧ W.cell? ⟨T0 + 1 + 1 + 1 + 1, 0, none⟩ = some (.map (some (T0 + 1 + 1 + 1))) ∧ W.cell? ⟨w.heap.size + 1, 0, none⟩ = some (.bool false) ∧ W.cell? ⟨w.heap.size, 0, none⟩ = some (.int .i64 stop) := by
  refine ⟨?_, ?_, ?_, ?_⟩
  · rw [cell_of_row _ _ _ _ _ _ h.nbx]; rfl
  · rw [cell_of_row _ _ _ _ _ _ h.mbx]; rfl
  · rw [cell_of_row _ _ _ _ _ _ h.res]; rfl
  · rw [cell_of_row _ _ _ _ _ _ h.stp]; rfl
theorem PT.fz (h : PT w stop T0 T v1 v2 ns V vn m W) : W.frozen? ⟨T0 + 1 + 1, 0, none⟩ = false ∧ W.frozen? ⟨w.heap.size + 1, 0, none⟩ = false ∧ W.frozen? ⟨w.heap.size, 0, none⟩ = false := by
  refine ⟨?_, ?_, ?_⟩
  · simp [World.frozen?, h.nbx]
  · simp [World.frozen?, h.res]
  · simp [World.frozen?, h.stp]
/-- a map that is turned turns nothing else -/
theorem tab_mapped {T0 T' m : Nat} {v1' v2' : Value} {ns' : List ByteArray} {ts' : List Int} {V : ByteArray → Option Int} {w2 w3 : World} (ht : TSI T0 T' v1' v2' ns' ts' w3) (hm3 : MapN w3 (T0 + 3) m V) (hg : w3.grownBy w2 (some (T0 + 3))) : TSI T0 T' v1' v2' ns' ts' w2 := by
  obtain ⟨o, ho, hc⟩ := hm3.blk
  exact ht.keep (S := fun k => k = T0 + 3) (Frm.grown hg (fun k e => by cases e; rfl)) (fun k hk e => by subst e; exact ht.notTS' ho hc hk)
/-- a name that is there gets another number -/
theorem PT.putOld {s : ByteArray} {z : Int} {w2 w3 : World} (h : PT w stop T0 T v1 v2 ns V vn m W) (hs : s ∈ ns) (ht : Tab 28 9 3 T0 T v1 v2 (ns.map Value.string) (((thg ns V).map (Value.int .i64)).set (plc ltS ns s) (.int .i64 z)) w3) (hf : Frm (TS T v1 v2) W w3)
    (hm : MapN w2 (T0 + 3) (m + 1) (fun t => if t = s then some z else V t)) (hg : w3.grownBy w2 (some (T0 + 3))) : PT w stop T0 T v1 v2 ns (fun t => if t = s then some z else V t) vn (m + 1) w2 := by
  obtain ⟨r1, r2, r3, r4, r5, r6, r7⟩ := h.far hf
  have hl := h.lt
  have hsz := h.sz
  have hs3 := hf.size
  have hts : ((thg ns V).map (Value.int .i64)).set (plc ltS ns s) (.int .i64 z) = (thg ns (fun t => if t = s then some z else V t)).map (Value.int .i64) := by
    rw [← List.map_set]
    congr 1
    refine List.ext_getElem? fun j => ?_
    have hp := plc_at ordS ns s h.srt hs
    have hpl := (List.getElem?_eq_some_iff.1 hp).1
    by_cases hj : j = plc ltS ns s
    · subst hj
      rw [List.getElem?_set_self (by simpa using hpl), List.getElem?_map, hp]
      simp
    · rw [List.getElem?_set_ne (fun e => hj e.symm), List.getElem?_map, List.getElem?_map]
      cases hx : ns[j]? with
      | none => rfl
      | some x =>
        have hne : x ≠ s := fun e => by
          subst e
          have := srt_nodup ordS h.srt
          exact hj ((List.getElem?_inj (List.getElem?_eq_some_iff.1 hx).1 this).1 (hx.trans hp.symm))
        simp [hne]
  rw [hts] at ht
  have row2 : w2.ownsRow T0 9 1 vn ns.length (ns.map Value.string) := own_far r1 hg (fun g e1 e2 => by
    cases e2
    obtain ⟨o, ho, hc⟩ := r4.blk
    obtain ⟨cur, hcur⟩ := own_type r1 e1
    rw [ho] at hcur
    cases hcur
    cases hc)
  exact ⟨tab_mapped ht r4 hg, row2, h.rne, (hg.block _ (by omega) (by simp)).trans r2, (hg.block _ (by omega) (by simp)).trans r3, hm, (hg.block _ (by omega) (by simp; omega)).trans r5, (hg.block _ (by omega) (by simp; omega)).trans r6, r7.grown hg r7.size (fun k e => by cases e; omega), hl, h.srt, fun t => by
    by_cases e : t = s
    · simp [e, hs]
    · simp only [if_neg e]
      exact h.mem t⟩
end

/-- one of the law's operations: what, a name, a number -/
structure OpP where
  k : Int
  s : ByteArray
  n : Int
instance : Inhabited OpP := ⟨⟨0, ⟨#[]⟩, 0⟩⟩
def RdP (W : World) (A : Option Addr) (os : List OpP) : Prop :=
  os = [] ∨ ∃ b off, A = some ⟨b, off, none⟩ ∧ b < W.heap.size ∧ ∀ i o, os[i]? = some o → W.cell? ⟨b, off + i * 3, none⟩ = some (.int .i64 o.k) ∧ W.cell? ⟨b, off + i * 3 + 1, none⟩ = some (.string o.s) ∧ W.cell? ⟨b, off + i * 3 + 2, none⟩ = some (.int .i64 o.n) ∧ o.s.size ≤ maxLen
theorem RdP.at_ {W : World} {A : Option Addr} {os : List OpP} {i : Nat} {o : OpP} (h : RdP W A os) (hr : os[i]? = some o) : ∃ b off, A = some ⟨b, off, none⟩ ∧ b < W.heap.size ∧ W.cell? ⟨b, off + i * 3, none⟩ = some (.int .i64 o.k) ∧ W.cell? ⟨b, off + i * 3 + 1, none⟩ = some (.string o.s) ∧ W.cell? ⟨b, off + i * 3 + 2, none⟩ = some (.int .i64 o.n) ∧ o.s.size ≤ maxLen := by
  rcases h with rfl | ⟨b, off, h1, h2, h3⟩
  · simp at hr
  · exact ⟨b, off, h1, h2, h3 i o hr⟩
end Go.Proofs.YtfkbjniodomdjaaDoor
