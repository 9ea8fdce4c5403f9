/- What lies in memory while the law PathTables runs: its own list laid anew; places in order. -/
import Derived.Test.YtfkbjniodomdjaaDoorQi
import Derived.Laws.AppendOwn
namespace Go.Proofs.YtfkbjniodomdjaaDoor
open Go.RowKit Go.Shelf Go.Lib

section
variable {α : Type} {lt : α → α → Bool}
/-- a place ahead of which all are less, at which none is -/
theorem plc_of (O : Ord lt) (ns : List α) (x : α) (k : Nat) (hs : Srt lt ns) (hk : k ≤ ns.length) (h1 : ∀ (j : Nat) (y : α), j < k → ns[j]? = some y → lt y x = true) (h2 : ∀ y, ns[k]? = some y → lt y x = false) : plc lt ns x = k := by
  unfold plc
  conv => lhs; rw [← List.take_append_drop k ns]
  rw [List.countP_append]
  have e1 : (ns.take k).countP (fun y => lt y x) = k := by
    have : (ns.take k).countP (fun y => lt y x) = (ns.take k).length := by
      rw [List.countP_eq_length]
      intro y hy
      obtain ⟨j, hj⟩ := List.mem_iff_getElem?.1 hy
      rw [List.getElem?_take] at hj
      split at hj
      · exact h1 j y (by assumption) hj
      · cases hj
    rw [this, List.length_take, Nat.min_eq_left hk]
  have e2 : (ns.drop k).countP (fun y => lt y x) = 0 := by
    rw [List.countP_eq_zero]
    intro y hy
    obtain ⟨j, hj⟩ := List.mem_iff_getElem?.1 hy
    rw [List.getElem?_drop] at hj
    cases j with
    | zero => rw [h2 y (by simpa using hj)]; decide
    | succ j =>
      intro hyx
      have hkl : k < ns.length := by have := (List.getElem?_eq_some_iff.1 hj).1; omega
      have hkk : ns[k]? = some ns[k] := List.getElem?_eq_getElem hkl
      have hlt : lt ns[k] y = true := by
        have := List.pairwise_iff_getElem.1 hs k (k + (j + 1)) hkl (List.getElem?_eq_some_iff.1 hj).1 (by omega)
        rwa [(List.getElem?_eq_some_iff.1 hj).2] at this
      have := O.tr _ _ _ hlt hyx
      rw [h2 _ hkk] at this
      cases this
  rw [e1, e2]
  rfl
end
theorem str_newX (w : World) (l : List Value) (t : TypeId) : ∀ j u, l[j]? = some u → (w.alloc (.cells l.toArray t)).cell? ((⟨w.heap.size, 0, none⟩ : Addr).add j) = some u := by
  intro j u hu
  rw [Addr.add_lit, Nat.zero_add, World.cell?_alloc_new]
  simpa using hu
/-- what is left when a name goes -/
theorem erase_filter {ns : List ByteArray} {x : ByteArray} (hs : Srt ltS ns) (hx : x ∈ ns) : ns.eraseIdx (plc ltS ns x) = ns.filter (fun y => !decide (y = x)) := by
  have hp := plc_at ordS ns x hs hx
  have hn := srt_nodup ordS hs
  obtain ⟨c, hc⟩ : ∃ c, plc ltS ns x = c := ⟨_, rfl⟩
  rw [hc] at hp ⊢
  clear hc hs hx
  induction ns generalizing c with
  | nil => simp at hp
  | cons y ns ih =>
    have hn' := List.nodup_cons.1 hn
    cases c with
    | zero =>
      simp at hp
      subst hp
      rw [List.eraseIdx_cons_zero, List.filter_cons, if_neg (by simp)]
      rw [List.filter_eq_self.2]
      intro z hz
      simp
      rintro rfl
      exact hn'.1 hz
    | succ c =>
      have hp' : ns[c]? = some x := by simpa using hp
      have hne : y ≠ x := by
        rintro rfl
        exact hn'.1 (List.mem_of_getElem? hp')
      rw [List.eraseIdx_cons_succ, List.filter_cons, if_pos (by simpa using hne), ih hn'.2 c hp']
theorem filter_self {ns : List ByteArray} {x : ByteArray} (hx : x ∉ ns) : ns.filter (fun y => !decide (y = x)) = ns := by
  rw [List.filter_eq_self]
  intro z hz
  simp
  rintro rfl
  exact hx hz
theorem thg_ins {ns : List ByteArray} {x : ByteArray} {V : ByteArray → Option Int} {z : Int} (c : Nat) (hx : x ∉ ns) : insAt ((thg ns V).map (Value.int .i64)) c (.int .i64 z) = (thg (insAt ns c x) (fun t => if t = x then some z else V t)).map (Value.int .i64) := by
  have h : ∀ l : List ByteArray, x ∉ l → l.map (fun t => (V t).getD 0) = l.map (fun t => ((if t = x then some z else V t : Option Int)).getD 0) := fun l hl => by
    refine List.map_congr_left fun t ht => ?_
    rw [if_neg (by rintro rfl; exact hl ht)]
  unfold thg insAt
  rw [← List.map_take, ← List.map_take, ← List.map_drop, ← List.map_drop, h _ (fun hm => hx (List.mem_of_mem_take hm)), h _ (fun hm => hx (List.mem_of_mem_drop hm))]
  simp
theorem thg_filter {ns : List ByteArray} {x : ByteArray} {V : ByteArray → Option Int} : thg (ns.filter (fun y => !decide (y = x))) V = thg (ns.filter (fun y => !decide (y = x))) (fun t => if t = x then none else V t) := by
  refine List.map_congr_left fun t ht => ?_
  rw [List.mem_filter] at ht
  show _ = (if t = x then none else V t : Option Int).getD 0
  rw [if_neg (by simpa using ht.2)]
section
variable {w : World} {stop : Int} {T0 T : Nat} {v1 v2 vn : Value} {ns : List ByteArray} {V : ByteArray → Option Int} {m : Nat} {W W' : World}
/-- the table and the map have turned, and the law's own list is laid anew -/
theorem PT.redo {ns' : List ByteArray} {V' : ByteArray → Option Int} {v1' v2' v7 : Value} {m' C : Nat} {W5 : World} (h : PT w stop T0 T v1 v2 ns V vn m W) (hf : Frm (fun k => TS T v1 v2 k ∨ k = T0 + 3) W W5)
    (ht : TSI T0 T v1' v2' ns' (thg ns' V') W5) (hm : MapN W5 (T0 + 3) m' V') (hv : W5.ownsRow C 9 1 v7 ns'.length (ns'.map Value.string)) (hC : W.heap.size ≤ C) (hTS : ∀ k, TS T v1' v2' k → k < C)
    (hs : Srt ltS ns') (hmem : ∀ s, (V' s).isSome = true ↔ s ∈ ns') : PT w stop T0 T v1' v2' ns' V' v7 m' (W5.setCell ⟨T0 + 2, 0, none⟩ v7) := by
  obtain ⟨n1, n2, n3, n4, n5⟩ := h.nt
  have hsz := h.sz
  have hl := h.lt
  have hx : ∀ k, k < W.heap.size → ¬ TS T v1 v2 k → k ≠ T0 + 3 → W5.heap[k]? = W.heap[k]? := fun k hk h1 h2 => hf.block k hk (fun e => by rcases e with e | e; exact h1 e; exact h2 e)
  have hN5 := (hx (T0 + 2) (by omega) n1 (by omega)).trans h.nbx
  have hbw : Below w.heap.size w W5 := h.bw.trans (hf.toBelow (by omega) (fun k hk => by
    rcases hk with hk | hk
    · have := (h.tab.in_ k hk).1; omega
    · omega))
  have hnt := ht.notTy hN5 (by decide) (by decide) (by decide)
  have hne : ∀ g, v7.ownBlock = some g → g ≠ T0 + 2 := fun g e => by have := (hv.lt g e).1; omega
  have hF : Frm (fun k => k = T0 + 2) W5 (W5.setCell ⟨T0 + 2, 0, none⟩ v7) := Frm.set v7 rfl
  have hs5 := hf.size
  refine ⟨ht.keep hF (fun k hk e => hnt (e ▸ hk)), own_weak (hF.own hv (fun k e1 e2 => hne k e1 e2)) (by omega), fun g e hts => ?_, heap_setCell_same _ (T0 + 2) 0 _ _ _ hN5, ?_, hm.ofBlock (hF.block _ (by omega) (by omega)), ?_, ?_, hbw.setCell (p := ⟨T0 + 2, 0, none⟩) (by show w.heap.size ≤ T0 + 2; omega) _, hl, hs, hmem⟩
  · have := (hv.lt g e).1
    have := hTS g hts
    omega
  · exact (hF.block _ (by omega) (by omega)).trans ((hx _ (by omega) n3 (by omega)).trans h.mbx)
  · exact (hF.block _ (by omega) (by omega)).trans ((hx _ (by omega) n5 (by omega)).trans h.res)
  · exact (hF.block _ (by omega) (by omega)).trans ((hx _ (by omega) n4 (by omega)).trans h.stp)
end
end Go.Proofs.YtfkbjniodomdjaaDoor
