/- Table[string, int]: Drop, Clone. -/
import Derived.Test.YtfkbjniodomdjaaDoorQd
import Derived.Deep.RegionHeld3
namespace Go.Proofs.YtfkbjniodomdjaaDoor
open Go.RowKit Go.Shelf Go.Lib
attribute [local go_sem] Oper.semAt_some

theorem own_weak {w : World} {b b' : Nat} {e : TypeId} {sz : Nat} {v : Value} {n : Nat} {xs : List Value} (h : w.ownsRow b e sz v n xs) (hb : b' ≤ b) : w.ownsRow b' e sz v n xs :=
  ⟨h.1, by
    rcases h.2 with h' | ⟨g, cap', cur, h', hg, rest⟩
    · exact .inl h'
    · exact .inr ⟨g, cap', cur, h', Nat.le_trans hb hg, rest⟩⟩
theorem er_map {α β : Type} (f : α → β) (l : List α) (i : Nat) : (l.eraseIdx i).map f = (l.map f).eraseIdx i := by
  rw [List.eraseIdx_eq_take_drop_succ, List.eraseIdx_eq_take_drop_succ, List.map_append, List.map_take, List.map_drop]
section
variable {base T : Nat} {v1 v2 : Value} {ns : List ByteArray} {ts : List Int}
theorem drop_none (x : ByteArray) (W : World) (h : TSI base T v1 v2 ns ts W) (hs : Srt ltS ns) (hx : x ∉ ns) (hl : ns.length < 1000000) : Calls Tryd.prog 11 #[.pointer (some ⟨T, 0, none⟩), .string x] W fun e W' => e = .returned (.bool false) ∧ ∃ q, W' = W.drewN q := by
  obtain ⟨c0, c1, _, _⟩ := h.cells
  have KS := Lib.hid (srSI_any x W h.r1 hs hl)
  rw [inS_f hx] at KS
  clear h hs hx
  go_enter Tryd.func11, Tryd.ntmps11
  go_wp2_with fail
  refine KS.out.mono ?_
  rintro e w1 ⟨rfl, q, rfl⟩
  go_wp2
  go_ret
  exact ⟨rfl, q, rfl⟩
set_option maxHeartbeats 2000000 in
theorem drop_some (x : ByteArray) (W : World) (h : TSI base T v1 v2 ns ts W) (hs : Srt ltS ns) (hx : x ∈ ns) (hl : ns.length < 1000000) : Calls Tryd.prog 11 #[.pointer (some ⟨T, 0, none⟩), .string x] W fun e W' => e = .returned (.bool true) ∧ ∃ v1' v2', TSI base T v1' v2' (ns.eraseIdx (plc ltS ns x)) (ts.eraseIdx (plc ltS ns x)) W' ∧ Frm (TS T v1 v2) W W' ∧ ∀ k, TS T v1' v2' k → TS T v1 v2 k := by
  obtain ⟨c0, c1, f0, f1⟩ := h.cells
  have KS := Lib.hid (srSI_any x W h.r1 hs hl)
  rw [inS_t hx] at KS
  have hat : plc ltS ns x < ns.length := (List.getElem?_eq_some_iff.1 (plc_at ordS ns x hs hx)).1
  obtain ⟨at_, hA⟩ : ∃ a, plc ltS ns x = a := ⟨_, rfl⟩
  rw [hA] at KS hat ⊢
  have HT := Lib.hid h
  have HN1 := Lib.hid (h.ne1 neSI.1)
  have HN2 := Lib.hid (h.ne2 neSI.2.1)
  have HN3 := Lib.hid (rows_ne h.r1 h.r2 neSI.2.2)
  have hlt := h.lt
  have hr1 := h.r1
  have hr2 := h.r2
  rw [List.length_map] at hr1 hr2
  have HR1 := Lib.hid hr1
  have HR2 := Lib.hid hr2
  clear h hA hs hx hr1 hr2
  go_enter Tryd.func11, Tryd.ntmps11
  go_wp2_with fail
  refine KS.out.mono ?_
  rintro e w1 ⟨rfl, q, rfl⟩
  go_wp2_with fail
  have hb1 : Below W.heap.size W (W.drewN q) := below_drewN (Below.refl _ W) q
  refine (delS_any (own_keepT HR1.out hb1) hat).mono ?_
  rintro e w2 ⟨v1', rfl, ho2, hg2, hn2⟩
  have hT2 : w2.heap[T]? = some (.cells #[v1, v2] 28 (0, 0)) := (hg2.block T (by simpa using hlt) (fun e => HN1.out e.symm)).trans HT.out.hd
  have hr22 : w2.ownsRow base 3 1 v2 ns.length (ts.map (Value.int .i64)) := own_far (own_keepT HR2.out hb1) hg2 (fun k e1 e2 => HN3.out k e2 e1)
  have hz2 : W.heap.size ≤ w2.heap.size := by have := hg2.size; simpa using this
  have hf2 : Frm (TS T v1 v2) W w2 := (Frm.below hb1).trans (Frm.grown hg2 (fun k e => .inr (.inl e)))
  have hv1T : v1'.ownBlock ≠ some T := fun e => HN1.out (hn2.symm.trans e)
  obtain ⟨A1, cp1, hv1s, _, _, _⟩ := own_sl ho2
  subst hv1s
  have d0 : w2.cell? ⟨T, 0, none⟩ = some v1 := by rw [cell_of_row w2 T _ _ _ _ hT2]; rfl
  have d1 : w2.cell? ⟨T, 1, none⟩ = some v2 := by rw [cell_of_row w2 T _ _ _ _ hT2]; rfl
  have e0 : w2.frozen? ⟨T, 0, none⟩ = false := by simp [World.frozen?, hT2]
  have e1 : w2.frozen? ⟨T, 1, none⟩ = false := by simp [World.frozen?, hT2]
  have HO2 := Lib.hid ho2
  have HR22 := Lib.hid hr22
  have HF2 := Lib.hid hf2
  have HV1 := Lib.hid hn2
  have HV1T := Lib.hid hv1T
  have HT2 := Lib.hid hT2
  clear c0 c1 f0 f1 ho2 hr22 hf2 hv1T hT2 hn2 hb1 hg2 KS
  go_wp2_with fail
  obtain ⟨W3, hW3⟩ : ∃ W3, w2.setCell ⟨T, 0, none⟩ (.slice A1 (ns.length - 1) cp1) = W3 := ⟨_, rfl⟩
  rw [hW3]
  have hs3 : W3.heap.size = w2.heap.size := by rw [← hW3]; simp
  have hf3 : Frm (TS T v1 v2) w2 W3 := by rw [← hW3]; exact Frm.set (p := ⟨T, 0, none⟩) _ (.inl rfl)
  have hT3 : W3.heap[T]? = some (.cells #[.slice A1 (ns.length - 1) cp1, v2] 28 (0, 0)) := by
    rw [← hW3]
    simp [World.setCell, Array.getElem?_modify, HT2.out]
  have hg3 : w2.grownBy W3 (some T) := by rw [← hW3]; exact grown_setCellT w2 ⟨T, 0, none⟩ _
  have ho3 := own_far HO2.out hg3 (fun k e1 e2 => by cases e2; exact HV1T.out e1)
  have hr3 := own_far HR22.out hg3 (fun k e1 e2 => by cases e2; exact HN2.out e1)
  refine (delI_any hr3 hat).mono ?_
  rintro e w5 ⟨v2', rfl, ho5, hg5, hn5⟩
  have hT5 : w5.heap[T]? = some (.cells #[.slice A1 (ns.length - 1) cp1, v2] 28 (0, 0)) := (hg5.block T (by omega) (fun e => HN2.out e.symm)).trans hT3
  have ho15 := own_far ho3 hg5 (fun k e1 e2 => HN3.out k (HV1.out.symm.trans e1) e2)
  have hv2T : v2'.ownBlock ≠ some T := fun e => HN2.out (hn5.symm.trans e)
  have hf5 : Frm (TS T v1 v2) W w5 := (HF2.out.trans hf3).trans (Frm.grown hg5 (fun k e => .inr (.inr e)))
  obtain ⟨A2, cp2, hv2s, _, _, _⟩ := own_sl ho5
  subst hv2s
  have d1' : w5.cell? ⟨T, 1, none⟩ = some v2 := by rw [cell_of_row w5 T _ _ _ _ hT5]; rfl
  have e1' : w5.frozen? ⟨T, 1, none⟩ = false := by simp [World.frozen?, hT5]
  have HO15 := Lib.hid ho15
  have HO5 := Lib.hid ho5
  have HV2 := Lib.hid hn5
  have HV2T := Lib.hid hv2T
  have HF5 := Lib.hid hf5
  have HT5 := Lib.hid hT5
  clear d0 d1 e0 e1 hW3 hs3 hf3 hT3 hg3 ho3 hr3 hg5 hn5 ho15 ho5 hv2T hf5 hT5 HF2 HT2 HR22 HO2
  go_wp2
  go_ret
  have hg6 := grown_setCellT w5 ⟨T, 1, none⟩ (.slice A2 (ns.length - 1) cp2)
  have hT6 : (w5.setCell ⟨T, 1, none⟩ (.slice A2 (ns.length - 1) cp2)).heap[T]? = some (.cells #[.slice A1 (ns.length - 1) cp1, .slice A2 (ns.length - 1) cp2] 28 (0, 0)) := by
    simp [World.setCell, Array.getElem?_modify, HT5.out]
  have hln : ((ns.eraseIdx at_).map Value.string).length = ns.length - 1 := by rw [List.length_map, List.length_eraseIdx_of_lt hat]
  refine ⟨rfl, _, _, ⟨hT6, ?_, ?_, HT.out.ge⟩, HF5.out.trans (Frm.set (p := ⟨T, 1, none⟩) _ (.inl rfl)), ?_⟩
  · rw [hln, er_map]
    exact own_far HO15.out hg6 (fun k e1 e2 => by cases e2; exact HV1T.out e1)
  · rw [hln, er_map]
    exact own_far HO5.out hg6 (fun k e1 e2 => by cases e2; exact HV2T.out e1)
  · rintro k (h | h | h)
    · exact .inl h
    · exact .inr (.inl (HV1.out.symm.trans h))
    · exact .inr (.inr (HV2.out.symm.trans h))
set_option maxHeartbeats 2000000 in
theorem clone_any (W : World) (h : TSI base T v1 v2 ns ts W) (hl : ns.length < 1000000) : Calls Tryd.prog 12 #[.pointer (some ⟨T, 0, none⟩)] W fun e W' => ∃ T' v1' v2', e = .returned (.pointer (some ⟨T', 0, none⟩)) ∧ TSI W.heap.size T' v1' v2' ns ts W' ∧ Below W.heap.size W W' := by
  obtain ⟨c0, c1, _, _⟩ := h.cells
  have hlt := h.lt
  have hr1 := h.r1
  have hr2 := h.r2
  rw [List.length_map] at hr1 hr2
  have KC := Lib.hid (fun (W' : World) (hb : Below W.heap.size W W') => cloS_any (own_keepT hr1 hb) hl)
  have KD := Lib.hid (fun (W' : World) (hb : Below W.heap.size W W') => cloI_any (own_keepT hr2 hb) hl)
  have HT := Lib.hid h
  clear h hr1 hr2
  have hbd : Below W.heap.size W W.drew := below_drewN (Below.refl _ W) 1
  have k0 : W.drew.cell? ⟨T, 0, none⟩ = some v1 := c0
  have k1 : W.drew.cell? ⟨T, 1, none⟩ = some v2 := c1
  go_enter Tryd.func12, Tryd.ntmps12
  go_wp2_with fail
  go_region_held3 (fun w' => w'.cell? ⟨T, 0, none⟩ = some v1 ∧ w'.cell? ⟨T, 1, none⟩ = some v2)
    (first | exact ⟨k0, k1⟩ | exact ⟨j0, j1⟩ | exact ⟨i0, i1⟩ | go_keep)
    (first
      | (go_at_call 42; refine (KC.out _ hbd).mono ?_; rintro e w2 ⟨v1', rfl, ho2, hb2⟩; obtain ⟨A1, cp1, rfl, _, _, _⟩ := own_sl ho2; have hB2 : Below W.heap.size W w2 := hbd.trans (hb2.mono (Nat.le_refl _)); have j0 := (hB2.cell (p := ⟨T, 0, none⟩) hlt).trans c0; have j1 := (hB2.cell (p := ⟨T, 1, none⟩) hlt).trans c1)
      | (go_at_call 43; refine (KD.out _ hB2).mono ?_; rintro e w3 ⟨v2', rfl, ho3, hb3⟩; obtain ⟨A2, cp2, rfl, _, _, _⟩ := own_sl ho3; have hB3 : Below W.heap.size W w3 := hB2.trans (hb3.mono hB2.size); have i0 := (hB3.cell (p := ⟨T, 0, none⟩) hlt).trans c0; have i1 := (hB3.cell (p := ⟨T, 1, none⟩) hlt).trans c1)
      | fail)
  all_goals
    go_wp2
    go_ret
    have hs3 := hB3.size
    refine ⟨w3.heap.size, _, _, rfl, ⟨heap_alloc_new w3 _, ?_, ?_, by omega⟩, hB3.alloc hs3 _⟩
    · rw [List.length_map]
      exact (own_keepT ho2 hb3).alloc _
    · rw [List.length_map]
      exact own_weak (ho3.alloc _) hB2.size
end
end Go.Proofs.YtfkbjniodomdjaaDoor
