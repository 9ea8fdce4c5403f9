/- Table[string, int]: Put, All. -/
import Derived.Test.YtfkbjniodomdjaaDoorQt
import Derived.Lib.Hide
import Derived.Test.YtfkbjniodomdjaaDoorQs
import Derived.RangeFuncFrom
import Derived.TacticsIn
import Derived.TacticsInMore
import Derived.LoopN
import Derived.LoopIn
import Derived.BigRegionIn
namespace Go.Proofs.YtfkbjniodomdjaaDoor
open Go.RowKit Go.Shelf Go.Lib
attribute [local go_sem] Oper.semAt_some

theorem neSI : 28 ≠ 9 ∧ 28 ≠ 3 ∧ 9 ≠ 3 := by decide

theorem srSI_any {base : Nat} {v : Value} {ns : List ByteArray} (x : ByteArray) (W : World) (h : W.ownsRow base 9 1 v (ns.map Value.string).length (ns.map Value.string)) (hs : Srt ltS ns) (hl : ns.length < 1000000) :
    Calls Tryd.prog 37 #[v, .string x] W fun e w' => e = .returned (.tuple #[.int .i64 (plc ltS ns x : Nat), .bool (inS ns x)]) ∧ ∃ q, w' = W.drewN q := by
  rw [List.length_map] at h
  rcases h.2 with ⟨rfl, h0⟩ | ⟨g, cap, cur, rfl, hb, hg, hn, hm, hcs, htk⟩
  · obtain rfl : ns = [] := List.eq_nil_of_length_eq_zero h0
    refine (Any2.slices_BinarySearch_string_empty Tryd.searchS none 0 x W).mono ?_
    rintro e w' ⟨rfl, rfl⟩
    exact ⟨rfl, 0, rfl⟩
  · have hc : ∀ j, j < ns.length → W.cell? ⟨g, 0 + j, none⟩ = some (.string (ns.getD j x)) := fun j hj => by
      rw [Nat.zero_add, h.cellAt j (by omega), List.getElem?_map, List.getElem?_eq_getElem hj]
      simp [hj]
    have hle := plc_le (lt := ltS) ns x
    have hb : Lib.bsGo (fun t => Op.bytesLess (ns.getD t x).toList x.toList) ns.length 0 ns.length = plc ltS ns x := by
      refine Lib.bsGo_spec _ (plc ltS ns x) (fun t ht => ?_) (fun t ht => ?_) ns.length 0 ns.length (by omega) (Nat.zero_le _) hle
      · have h1 : ns[t]? = some ns[t] := List.getElem?_eq_getElem (by omega)
        have := plc_lt ordS ns x hs t _ h1
        rw [decide_eq_true ht] at this
        simpa [List.getD_eq_getElem?_getD, h1, ltS] using this
      · by_cases htl : t < ns.length
        · have h1 : ns[t]? = some ns[t] := List.getElem?_eq_getElem htl
          have := plc_lt ordS ns x hs t _ h1
          rw [decide_eq_false (by omega)] at this
          simpa [List.getD_eq_getElem?_getD, h1, ltS] using this
        · have h1 : ns[t]? = none := List.getElem?_eq_none (by omega)
          have := ordS.irr x
          simpa [List.getD_eq_getElem?_getD, h1, ltS] using this
    have := Any2.slices_BinarySearch_string Tryd.searchS g 0 ns.length cap (fun t => ns.getD t x) x W (by omega) hc
    rw [hb] at this
    have hd : decide (plc ltS ns x < ns.length ∧ ns.getD (plc ltS ns x) x = x) = inS ns x := by
      by_cases hx : x ∈ ns
      · have h1 := plc_at ordS ns x hs hx
        have h2 := (List.getElem?_eq_some_iff.1 h1).1
        rw [inS_t hx]
        exact decide_eq_true ⟨h2, by simp [List.getD_eq_getElem?_getD, h1]⟩
      · rw [inS_f hx]
        refine decide_eq_false ?_
        rintro ⟨h2, h3⟩
        rw [List.getD_eq_getElem?_getD, List.getElem?_eq_getElem h2] at h3
        exact hx (h3 ▸ List.getElem_mem h2)
    rw [hd] at this
    exact this


set_option maxHeartbeats 1000000 in
theorem putSI_old {base T : Nat} {v1 v2 : Value} {ns : List ByteArray} {ys : List Value} (x : ByteArray) (u : Int) (W : World) (h : Tab 28 9 3 base T v1 v2 (ns.map Value.string) ys W) (hs : Srt ltS ns) (hx : x ∈ ns) (hl : ns.length < 1000000) :
    Calls Tryd.prog 9 #[.pointer (some ⟨T, 0, none⟩), Value.string x, Value.int .i64 u] W fun e W' => e = .returned (.bool false) ∧ Tab 28 9 3 base T v1 v2 (ns.map Value.string) (ys.set (plc ltS ns x) (Value.int .i64 u)) W' ∧ Frm (TS T v1 v2) W W' := by
  have KS := Lib.hid (srSI_any x W h.r1 hs hl)
  have hc : inS ns x = true := inS_t hx
  rw [hc] at KS
  have hat : plc ltS ns x < ns.length := (List.getElem?_eq_some_iff.1 (plc_at ordS ns x hs hx)).1
  obtain ⟨at_, hA⟩ : ∃ a, plc ltS ns x = a := ⟨_, rfl⟩
  rw [hA] at KS hat ⊢
  obtain ⟨c0, c1, f0, f1⟩ := h.cells
  have HT := Lib.hid h
  have hr2 := h.r2
  rw [List.length_map] at hr2
  obtain ⟨A2, cap2, hv2, hn2, hm2, hg2⟩ := own_sl hr2
  obtain ⟨g, rfl, hbg, hgl⟩ := hg2 (by omega)
  subst hv2
  have hcell : W.cell? ⟨g, at_, none⟩ = ys[at_]? := hr2.cellAt at_ (by omega)
  have hyl := h.len
  rw [List.length_map] at hyl
  rw [List.getElem?_eq_getElem (by omega)] at hcell
  have hfz : W.frozen? ⟨g, at_, none⟩ = false := hr2.frozenAt at_
  have HR2 := Lib.hid hr2
  unfold maxLen at hm2
  clear h hr2 hs hx hc hg2
  go_enter Tryd.func9, Tryd.ntmps9
  go_wp2_with fail
  refine KS.out.mono ?_
  rintro e w1 ⟨rfl, q, rfl⟩
  go_wp2
  go_ret
  have h := HT.out
  have h1 := h.ne2 neSI.2.1
  have h2 := rows_ne h.r1 h.r2 neSI.2.2
  refine ⟨rfl, ⟨?_, ?_, ?_, h.ge⟩, ?_⟩
  · exact (Below.heap_setCell _ ⟨g, at_, none⟩ _ T (fun e => h1 (by rw [e]; rfl))).trans h.hd
  · exact own_far (row := some g) (h.r1) (grown_trans' (grown_drewN W q) (grown_setCellT _ ⟨g, at_, none⟩ _)) (fun k e1 e2 => by cases e2; exact h2 g e1 rfl)
  · have := own_turn (W := W.drewN q) (g := g) HR2.out rfl at_ (Value.int .i64 u)
    rw [List.length_map]
    exact this
  · exact (Frm.drewN _ W q).trans (Frm.set (p := ⟨g, at_, none⟩) _ (.inr (.inr rfl)))

set_option maxHeartbeats 2000000 in
theorem putSI_new {base T : Nat} {v1 v2 : Value} {ns : List ByteArray} {ys : List Value} (x : ByteArray) (u : Int) (W : World) (h : Tab 28 9 3 base T v1 v2 (ns.map Value.string) ys W) (h1 : ∀ u ∈ ys, u.oneCell' = true) (hs : Srt ltS ns) (hx : x ∉ ns) (hl : ns.length < 1000000) :
    Calls Tryd.prog 9 #[.pointer (some ⟨T, 0, none⟩), Value.string x, Value.int .i64 u] W fun e W' => e = .returned (.bool true) ∧ ∃ v1' v2', Tab 28 9 3 base T v1' v2' ((insAt ns (plc ltS ns x) x).map Value.string) (insAt ys (plc ltS ns x) (Value.int .i64 u)) W' ∧ Frm (TS T v1 v2) W W' ∧ ∀ k, TS T v1' v2' k → TS T v1 v2 k ∨ W.heap.size ≤ k := by
  have KS := Lib.hid (srSI_any x W h.r1 hs hl)
  have hc : inS ns x = false := inS_f hx
  rw [hc] at KS
  have hat : plc ltS ns x ≤ ns.length := plc_le ns x
  obtain ⟨at_, hA⟩ : ∃ a, plc ltS ns x = a := ⟨_, rfl⟩
  rw [hA] at KS hat ⊢
  obtain ⟨c0, c1, f0, f1⟩ := h.cells
  have HT := Lib.hid h
  have HN1 := Lib.hid (h.ne1 neSI.1)
  have HN2 := Lib.hid (h.ne2 neSI.2.1)
  have HN3 := Lib.hid (rows_ne h.r1 h.r2 neSI.2.2)
  have hlt := h.lt
  have hbs : base ≤ W.heap.size := by have := h.ge; omega
  have H1 := Lib.hid h1
  have hr1 := h.r1
  have hr2 := h.r2
  rw [List.length_map] at hr1 hr2
  have HR1 := Lib.hid hr1
  have HR2 := Lib.hid hr2
  clear h hA hs hx hc h1 hr1 hr2
  go_enter Tryd.func9, Tryd.ntmps9
  go_wp2_with fail
  refine KS.out.mono ?_
  rintro e w1 ⟨rfl, q, rfl⟩
  go_wp2_with fail
  have hb1 : Below W.heap.size W ((W.drewN q).alloc (.cells #[Value.string x] 9)) := (below_drewN (Below.refl _ W) q).alloc (Nat.le_refl _) _
  refine (insS_any (base := base) (n := ns.length) (i := at_) (x := Value.string x) (vb := W.heap.size) (own_keepT HR1.out hb1) (by simp; omega) (by simp [Value.oneCell']) rfl hat (by omega) (heap_alloc_new (W.drewN q) _) (fun e => by have := (HR1.out.lt _ e).2; omega)).mono ?_
  rintro e w2 ⟨v1', rfl, ho2, hg2, hn2⟩
  have hT2 : w2.heap[T]? = some (.cells #[v1, v2] 28 (0, 0)) := (hg2.block T (by simp; omega) (fun e => HN1.out e.symm)).trans ((Below.heap_alloc _ _ _ (by simpa using hlt)).trans HT.out.hd)
  have hr22 : w2.ownsRow base 3 1 v2 ns.length ys := own_far (own_keepT HR2.out hb1) hg2 (fun k e1 e2 => HN3.out k e2 e1)
  have hz2 : W.heap.size < w2.heap.size := by have := hg2.size; simp at this; omega
  have hf2 : Frm (TS T v1 v2) W w2 := (Frm.below hb1).trans (Frm.grown hg2 (fun k e => .inr (.inl e)))
  have hv1 : ∀ k, v1'.ownBlock = some k → TS T v1 v2 k ∨ W.heap.size ≤ k := fun k e => by
    rcases hn2 with h | h
    · exact .inl (.inr (.inl (by rw [← h]; exact e)))
    · rw [h] at e; simp at e; exact .inr (by omega)
  have hv1T : v1'.ownBlock ≠ some T := fun e => by
    rcases hn2 with h | h
    · exact HN1.out (h.symm.trans e)
    · rw [h] at e; simp at e; omega
  have hv12 : ∀ k, v1'.ownBlock = some k → v2.ownBlock ≠ some k := fun k e e2 => by
    rcases hn2 with h | h
    · exact HN3.out k (h.symm.trans e) e2
    · rw [h] at e; simp at e; have := (HR2.out.lt k e2).2; omega
  obtain ⟨A1, cp1, hv1s, _, _, _⟩ := own_sl ho2
  subst hv1s
  have d0 : w2.cell? ⟨T, 0, none⟩ = some v1 := by rw [cell_of_row w2 T _ _ _ _ hT2]; rfl
  have d1 : w2.cell? ⟨T, 1, none⟩ = some v2 := by rw [cell_of_row w2 T _ _ _ _ hT2]; rfl
  have e0 : w2.frozen? ⟨T, 0, none⟩ = false := by simp [World.frozen?, hT2]
  have e1 : w2.frozen? ⟨T, 1, none⟩ = false := by simp [World.frozen?, hT2]
  have HO2 := Lib.hid ho2
  have HR22 := Lib.hid hr22
  have HF2 := Lib.hid hf2
  have HV1 := Lib.hid hv1
  have HV1T := Lib.hid hv1T
  have HV12 := Lib.hid hv12
  have HT2 := Lib.hid hT2
  have HB := Lib.hid hbs
  have hneT : ¬ w2.heap.size = T := by omega
  have hneT' : ¬ T = w2.heap.size := by omega
  clear c0 c1 f0 f1 ho2 hr22 hf2 hv1 hv1T hv12 hT2 hn2 hb1 hg2 hbs KS
  go_wp2_with fail
  obtain ⟨W3, hW3⟩ : ∃ W3, w2.setCell ⟨T, 0, none⟩ (.slice A1 (ns.length + 1) cp1) = W3 := ⟨_, rfl⟩
  rw [hW3]
  have hs3 : W3.heap.size = w2.heap.size := by rw [← hW3]; simp
  have hf3 : Frm (TS T v1 v2) w2 W3 := by rw [← hW3]; exact Frm.set (p := ⟨T, 0, none⟩) _ (.inl rfl)
  have hT3 : W3.heap[T]? = some (.cells #[.slice A1 (ns.length + 1) cp1, v2] 28 (0, 0)) := by
    rw [← hW3]
    simp [World.setCell, Array.getElem?_modify, HT2.out]
  have hg3 : w2.grownBy W3 (some T) := by rw [← hW3]; exact grown_setCellT w2 ⟨T, 0, none⟩ _
  have ho3 := own_far HO2.out hg3 (fun k e1 e2 => by cases e2; exact HV1T.out e1)
  have hr3 := own_far HR22.out hg3 (fun k e1 e2 => by cases e2; exact HN2.out e1)
  have hb4 : Below W3.heap.size W3 (W3.alloc (.cells #[Value.int .i64 u] 3)) := (Below.refl _ W3).alloc (Nat.le_refl _) _
  rw [← hs3]
  refine (insI_any (base := base) (n := ns.length) (i := at_) (x := Value.int .i64 u) (vb := W3.heap.size) (own_keepT hr3 hb4) (by have := HB.out; simp; omega) H1.out rfl hat (by omega) (heap_alloc_new W3 _) (fun e => by have := (hr3.lt _ e).2; omega)).mono ?_
  rintro e w5 ⟨v2', rfl, ho5, hg5, hn5⟩
  have hT5 : w5.heap[T]? = some (.cells #[.slice A1 (ns.length + 1) cp1, v2] 28 (0, 0)) := (hg5.block T (by simp; omega) (fun e => HN2.out e.symm)).trans ((Below.heap_alloc _ _ _ (by omega)).trans hT3)
  have ho15 := own_far (own_keepT ho3 hb4) hg5 (fun k e1 e2 => HV12.out k e1 e2)
  have hv2 : ∀ k, v2'.ownBlock = some k → TS T v1 v2 k ∨ W.heap.size ≤ k := fun k e => by
    rcases hn5 with h | h
    · exact .inl (.inr (.inr (by rw [← h]; exact e)))
    · rw [h] at e; simp at e; exact .inr (by omega)
  have hv2T : v2'.ownBlock ≠ some T := fun e => by
    rcases hn5 with h | h
    · exact HN2.out (h.symm.trans e)
    · rw [h] at e; simp at e; omega
  have hf5 : Frm (TS T v1 v2) W w5 := ((HF2.out.trans hf3).trans (Frm.below hb4)).trans (Frm.grown hg5 (fun k e => .inr (.inr e)))
  obtain ⟨A2, cp2, hv2s, _, _, _⟩ := own_sl ho5
  subst hv2s
  have d1' : w5.cell? ⟨T, 1, none⟩ = some v2 := by rw [cell_of_row w5 T _ _ _ _ hT5]; rfl
  have e1' : w5.frozen? ⟨T, 1, none⟩ = false := by simp [World.frozen?, hT5]
  have HO15 := Lib.hid ho15
  have HO5 := Lib.hid ho5
  have HV2 := Lib.hid hv2
  have HV2T := Lib.hid hv2T
  have HF5 := Lib.hid hf5
  have HT5 := Lib.hid hT5
  clear d0 d1 e0 e1 hW3 hs3 hf3 hT3 hg3 ho3 hr3 hb4 hg5 hn5 ho15 ho5 hv2 hv2T hf5 hT5 HF2 HT2 HR22 HO2
  go_wp2
  go_ret
  have hg6 := grown_setCellT w5 ⟨T, 1, none⟩ (.slice A2 (ns.length + 1) cp2)
  have hT6 : (w5.setCell ⟨T, 1, none⟩ (.slice A2 (ns.length + 1) cp2)).heap[T]? = some (.cells #[.slice A1 (ns.length + 1) cp1, .slice A2 (ns.length + 1) cp2] 28 (0, 0)) := by
    simp [World.setCell, Array.getElem?_modify, HT5.out]
  have hln : ((insAt ns at_ x).map Value.string).length = ns.length + 1 := by rw [List.length_map, len_insAt _ _ _ hat]
  refine ⟨rfl, _, _, ⟨hT6, ?_, ?_, HT.out.ge⟩, HF5.out.trans (Frm.set (p := ⟨T, 1, none⟩) _ (.inl rfl)), ?_⟩
  · rw [hln]
    have := own_far HO15.out hg6 (fun k e1 e2 => by cases e2; exact HV1T.out e1)
    simpa [insAt, List.map_take, List.map_drop] using this
  · rw [hln]
    exact own_far HO5.out hg6 (fun k e1 e2 => by cases e2; exact HV2T.out e1)
  · rintro k (h | h | h)
    · exact .inl (.inl h)
    · exact HV1.out k h
    · exact HV2.out k h

theorem allSI_any (T : Nat) (W : World) : Calls Tryd.prog 14 #[.pointer (some ⟨T, 0, none⟩)] W fun e W' => e = .returned (.func (.func 44) #[] #[.pointer (some ⟨W.heap.size, 0, none⟩)]) ∧ W' = W.alloc (.cells #[.pointer (some ⟨T, 0, none⟩)] 24) := by
  go_enter Tryd.func14, Tryd.ntmps14
  go_wp2
  go_ret
  exact ⟨rfl, rfl⟩

/-- what the iterator reads -/
structure SrcSI (B0 base T : Nat) (v1 v2 : Value) (ns : List ByteArray) (ts : List (Int)) (W : World) : Prop where
  box : W.heap[B0]? = some (.cells #[.pointer (some ⟨T, 0, none⟩)] 24 (0, 0))
  tab : Tab 28 9 3 base T v1 v2 (ns.map Value.string) (ts.map (Value.int .i64)) W
theorem SrcSI.keep {S : Nat → Prop} {B0 base T : Nat} {v1 v2 : Value} {ns : List ByteArray} {ts : List (Int)} {W W' : World} (h : SrcSI B0 base T v1 v2 ns ts W) (hf : Frm S W W') (h0 : ¬ S B0) (hS : ∀ k, TS T v1 v2 k → ¬ S k) : SrcSI B0 base T v1 v2 ns ts W' :=
  ⟨(hf.block B0 (Array.getElem?_eq_some_iff.1 h.box).1 h0).trans h.box, h.tab.keep hf hS⟩
abbrev encSI (x : ByteArray × Int) : Array Value := #[Value.string x.1, Value.int .i64 x.2]
theorem zip_stepSI {ns : List ByteArray} {ts : List (Int)} {p : Nat} {a : ByteArray} {b : Int} (h1 : ns[p]? = some a) (h2 : ts[p]? = some b) : (ns.zip ts).take (p + 1) = (ns.zip ts).take p ++ [(a, b)] := by
  rw [List.take_add_one]
  congr 1
  rw [show (ns.zip ts)[p]? = some (a, b) from List.getElem?_zip_eq_some.2 ⟨h1, h2⟩]
  rfl

set_option maxRecDepth 100000 in
set_option maxHeartbeats 1000000 in
theorem iterSI_in (n : Nat) (hn : 1 ≤ n) (l : Nat) (B0 base T : Nat) (v1 v2 : Value) (ns : List ByteArray) (ts : List (Int)) (J Jx : List (ByteArray × Int) → World → Prop) (hl : ns.length ≤ 1000000) (en : ByteArray × Int → Array Value) (hen : ∀ x ∈ ns.zip ts, en x = encSI x) (hJd : ∀ pre W, J pre W → J pre W.drew)
    (hY : ∀ pre x W, J pre W → pre.length < ns.length + 1 → YieldAt Fence.wide (n - 1) Tryd.prog l (en x) W fun e W' =>
      (e = .returned (.bool true) ∧ J (pre ++ [x]) W' ∧ (SrcSI B0 base T v1 v2 ns ts W → SrcSI B0 base T v1 v2 ns ts W')) ∨ (e = .returned (.bool false) ∧ Jx (pre ++ [x]) W'))
    (W : World) (hS : SrcSI B0 base T v1 v2 ns ts W) (h0 : J [] W) :
    CallsIn Fence.wide n Tryd.prog 44 #[.func (.yield l) #[] #[], .pointer (some ⟨B0, 0, none⟩)] W fun e W' => (∃ v, e = .returned v) ∧
      ((∃ ys, ys = ns.zip ts ∧ J ys W') ∨ (∃ pre, pre <+: ns.zip ts ∧ Jx pre W')) := by
  have hlen : ts.length = ns.length := by have := hS.tab.len; simpa using this
  have hbox : W.cell? ⟨B0, 0, none⟩ = some (.pointer (some ⟨T, 0, none⟩)) := by rw [cell_of_row W B0 _ _ _ _ hS.box]; rfl
  obtain ⟨c0, c1, _, _⟩ := hS.tab.cells
  have hr1 := hS.tab.r1
  have hr2 := hS.tab.r2
  rw [List.length_map] at hr1 hr2
  obtain ⟨A1, cp1, hv1, hle1, hm1, hg1⟩ := own_sl hr1
  obtain ⟨A2, cp2, hv2, hle2, hm2, hg2⟩ := own_sl hr2
  subst hv1
  subst hv2
  unfold maxLen at hm1 hm2
  clear hr1 hr2
  have HS := Lib.hid hS
  clear hS
  refine callsIn_of_wp Tryd.func44 rfl trivial ?_ rfl
  simp only [Tryd.ntmps44, List.size_toArray, List.length_cons, List.length_nil, Nat.reduceAdd, Nat.reduceSub, Array.replicate_succ, Array.replicate_zero, List.push_toArray, List.append_toArray, List.nil_append, List.cons_append]
  have hS1 : SrcSI B0 base T (.slice A1 ns.length cp1) (.slice A2 ns.length cp2) ns ts W.drew := HS.out.keep (S := fun _ => False) (Frm.drewN _ W 1) (fun h => h) (fun _ _ h => h)
  have HS1 := Lib.hid hS1
  have HJ1 := Lib.hid (hJd _ _ h0)
  clear hS1
  gi_wp2
  gi_region
  gi_wp2
  gi_loopw [19] (fun i wr => ∃ p : Nat, i = .int .i64 p ∧ p ≤ ns.length ∧ Hid (SrcSI B0 base T (.slice A1 ns.length cp1) (.slice A2 ns.length cp2) ns ts wr) ∧ Hid (J ((ns.zip ts).take p) wr))
    (fun i _ => ns.length - (intOf i).toNat)
  case atStart => exact ⟨0, rfl, by omega, HS1, HJ1⟩
  case round =>
    obtain ⟨p, rfl, hp, HSr, HJr⟩ := hrel
    by_cases hlt : p < ns.length
    · obtain ⟨g1, rfl, _, _⟩ := hg1 (by omega)
      obtain ⟨g2, rfl, _, _⟩ := hg2 (by omega)
      have hr1 := HSr.out.tab.r1
      have hr2 := HSr.out.tab.r2
      rw [List.length_map] at hr1 hr2
      have k1 := hr1.cellAt p (by omega)
      have k2 := hr2.cellAt p (by omega)
      have hx1 : ns[p]? = some ns[p] := List.getElem?_eq_getElem hlt
      have hx2 : ts[p]? = some ts[p] := List.getElem?_eq_getElem (by omega)
      rw [List.getElem?_map, hx1] at k1
      rw [List.getElem?_map, hx2] at k2
      obtain ⟨a, ha⟩ : ∃ a, ns[p] = a := ⟨_, rfl⟩
      obtain ⟨b, hb⟩ : ∃ b, ts[p] = b := ⟨_, rfl⟩
      rw [ha] at k1 hx1
      rw [hb] at k2 hx2
      simp only [Option.map_some] at k1 k2
      have HZ := Lib.hid (zip_stepSI hx1 hx2)
      have hzl : ((ns.zip ts).take p).length = p := by simp; omega
      have hYY := hY ((ns.zip ts).take p) (a, b) wr HJr.out (by omega)
      rw [hen (a, b) (List.mem_of_getElem? (List.getElem?_zip_eq_some.2 ⟨hx1, hx2⟩))] at hYY
      obtain ⟨fn, tmps, assign, body, hy, hR⟩ := hYY
      clear hr1 hr2 hx1 hx2 ha hb hzl
      gi_wp2
      refine hR.mono ?_
      rintro e W3 (⟨rfl, hJ3, hk3⟩ | ⟨rfl, hJx3⟩)
      · have HS3 := Lib.hid (hk3 HSr.out)
        have HJ3 := Lib.hid hJ3
        clear hk3 hJ3
        gi_wp2
        go_roundw
        case rel => exact ⟨p + 1, by go_num, by omega, HS3, Lib.hid (by rw [HZ.out]; exact HJ3.out)⟩
        case measure => simp [intOf]; omega
      · gi_wp2
        refine bodyPost_ret (results_none rfl _ _ _) rfl ?_
        exact ⟨⟨_, rfl⟩, .inr ⟨_, by rw [← HZ.out]; exact List.take_prefix _ _, hJx3⟩⟩
    · gi_wp2
      go_end0
      exact ⟨⟨_, rfl⟩, .inl ⟨_, rfl, by have := HJr.out; rwa [List.take_of_length_le (by simp; omega)] at this⟩⟩

theorem iterSI_stops (n : Nat) (hn : 1 ≤ n) (B0 base T : Nat) (v1 v2 : Value) (ns : List ByteArray) (ts : List (Int)) (hl : ns.length ≤ 1000000) (en : ByteArray × Int → Array Value) (hen : ∀ x ∈ ns.zip ts, en x = encSI x) (w : World) (hS : SrcSI B0 base T v1 v2 ns ts w) :
    SeqStopsK Fence.wide n Tryd.prog 44 #[.pointer (some ⟨B0, 0, none⟩)] en (fun W W' => SrcSI B0 base T v1 v2 ns ts W → SrcSI B0 base T v1 v2 ns ts W') (fun xs => xs = ns.zip ts) (fun pre => pre <+: ns.zip ts) (ns.length + 1) w :=
  fun l J Jx W hW hJ _ hY h0 => iterSI_in n hn l B0 base T v1 v2 ns ts J Jx hl en hen (fun pre W h => hJ pre W W.drew none h (grown_drew W none) (fun r e => by cases e)) hY W
    (hS.keep (S := fun _ => False) (Frm.below hW) (fun h => h) (fun _ _ h => h)) h0
theorem srcSI_kt {B0 base T : Nat} {v1 v2 : Value} {ns : List ByteArray} {ts : List (Int)} : ∀ {X Y Z : World}, (SrcSI B0 base T v1 v2 ns ts X → SrcSI B0 base T v1 v2 ns ts Y) → (SrcSI B0 base T v1 v2 ns ts Y → SrcSI B0 base T v1 v2 ns ts Z) → (SrcSI B0 base T v1 v2 ns ts X → SrcSI B0 base T v1 v2 ns ts Z) := fun h k x => k (h x)
theorem srcSI_kb {B0 base T : Nat} {v1 v2 : Value} {ns : List ByteArray} {ts : List (Int)} (W : World) (l : Nat) (o o' : Obj) (hl : W.heap[l]? = some o) (ho : o.isCells = false) : SrcSI B0 base T v1 v2 ns ts W → SrcSI B0 base T v1 v2 ns ts (W.putObj l o') := by
  intro h
  refine h.keep (S := fun k => k = l) (Frm.grown (grownBy_putObj' W l o') (fun k e => by cases e; rfl)) ?_ ?_
  · rintro rfl
    have := h.box
    rw [hl] at this
    cases this
    cases ho
  · rintro k hk rfl
    obtain ⟨o2, h2, h3⟩ := h.tab.isCells k hk
    rw [hl] at h2
    cases h2
    rw [h3] at ho
    cases ho

end Go.Proofs.YtfkbjniodomdjaaDoor
