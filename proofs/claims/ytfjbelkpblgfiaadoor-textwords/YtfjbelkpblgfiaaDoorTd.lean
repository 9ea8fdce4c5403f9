/- The contract of text.Decode. -/
import Derived.Test.YtfjbelkpblgfiaaDoorTi
namespace Go.Proofs.YtfjbelkpblgfiaaDoor
open Go.RowKit Go.Shelf
attribute [local go_sem] Oper.semAt_some

theorem infoI32 : (Tryd.prog.info? 21).map (fun i => (i.zero, i.size, i.bytes)) = some (some (.int .i32 0), 1, 4) := by kernel_rfl

/-- between two rounds of Decode's loop -/
def DecI (w : World) (R : Nat) (pre : List (Nat × Int)) (W : World) : Prop :=
  ((∃ v, Boxed W R 29 v ∧ W.ownsRow w.heap.size 21 1 v (Tx.decTo pre).1.length ((Tx.decTo pre).1.map (Value.int .i32)) ∧ True) ∧ Boxed W (R + 1) 4 (.bool (Tx.decTo pre).2)) ∧ Below w.heap.size w W

theorem dec_keep {b : List Int} {B1 : Nat} {A1 : Option Addr} {cap1 : Nat} {w W : World} {R : Nat} {pre : List (Nat × Int)} {x : Nat × Int} {q : Bool} (hz : w.heap.size ≤ R) (h : DecI w R pre W) (hs : Tx.decTo (pre ++ [x]) = ((Tx.decTo pre).1, q)) :
    KeepsOthers W (W.setCell ⟨R + 1, 0, none⟩ (.bool q)) ∧ (Src b 0 B1 A1 cap1 W → Src b 0 B1 A1 cap1 (W.setCell ⟨R + 1, 0, none⟩ (.bool q))) ∧ DecI w R (pre ++ [x]) (W.setCell ⟨R + 1, 0, none⟩ (.bool q)) := by
  obtain ⟨⟨⟨v, hv, hrow, _⟩, hT⟩, hB⟩ := h
  refine ⟨KeepsOthers.setCell _ _ _, fun hsrc => hsrc.set hT (by decide) (by decide) _, ⟨⟨v, ?_, ?_, trivial⟩, ?_⟩, hB.setCell (p := ⟨R + 1, 0, none⟩) (by simp; omega) _⟩
  · exact hv.kept (grown_setCell W (R + 1) _) (by simp)
  · rw [hs]
    exact hrow.kept (grown_setCell W (R + 1) _) (.inr (fun e => hT.not_row (by decide) hrow e.symm))
  · rw [hs]
    exact hT.set _

theorem dec_app {b : List Int} {B1 : Nat} {A1 : Option Addr} {cap1 : Nat} {w W w1 : World} {R : Nat} {pre : List (Nat × Int)} {x : Nat × Int} {q : Bool} {y : Int} {v v' : Value} {tmp : Obj} (hz : w.heap.size ≤ R)
    (hv : Boxed W R 29 v) (hrow : W.ownsRow w.heap.size 21 1 v (Tx.decTo pre).1.length ((Tx.decTo pre).1.map (Value.int .i32))) (hT : Boxed W (R + 1) 4 (.bool (Tx.decTo pre).2)) (hB : Below w.heap.size w W)
    (hown' : w1.ownsRow w.heap.size 21 1 v' ((Tx.decTo pre).1.length + 1) ((Tx.decTo pre).1.map (Value.int .i32) ++ [.int .i32 y])) (hgrow : (W.alloc tmp).grownBy w1 v.ownBlock) (hs : Tx.decTo (pre ++ [x]) = ((Tx.decTo pre).1 ++ [y], q)) :
    KeepsOthers W ((w1.setCell ⟨R, 0, none⟩ v').setCell ⟨R + 1, 0, none⟩ (.bool q)) ∧ (Src b 0 B1 A1 cap1 W → Src b 0 B1 A1 cap1 ((w1.setCell ⟨R, 0, none⟩ v').setCell ⟨R + 1, 0, none⟩ (.bool q))) ∧ DecI w R (pre ++ [x]) ((w1.setCell ⟨R, 0, none⟩ v').setCell ⟨R + 1, 0, none⟩ (.bool q)) := by
  obtain ⟨hv1, hv2, hr2, hk2, hb2⟩ := hv.appended (by decide) hrow hB.size hz hown' hgrow
  have hT1 : Boxed w1 (R + 1) 4 (.bool (Tx.decTo pre).2) := (hT.alloc _).kept hgrow (hT.not_row (by decide) hrow)
  have hT2 : Boxed (w1.setCell ⟨R, 0, none⟩ v') (R + 1) 4 (.bool (Tx.decTo pre).2) := hT1.kept (grown_setCell w1 R _) (by simp)
  refine ⟨hk2.trans (KeepsOthers.setCell _ _ _), fun hsrc => ((hsrc.app hrow (by decide) (by decide) hgrow).set hv1 (by decide) (by decide) _).set hT2 (by decide) (by decide) _, ⟨⟨v', ?_, ?_, trivial⟩, ?_⟩, (hB.trans hb2).setCell (p := ⟨R + 1, 0, none⟩) (by simp; omega) _⟩
  · exact hv2.kept (grown_setCell _ (R + 1) _) (by simp)
  · rw [hs]
    have := hr2.kept (grown_setCell (w1.setCell ⟨R, 0, none⟩ v') (R + 1) (.bool q)) (.inr (fun e => hT2.not_row (by decide) hr2 e.symm))
    simpa using this
  · rw [hs]
    exact hT2.set _

set_option maxRecDepth 100000 in
set_option maxHeartbeats 2000000 in
theorem decode_any (b : List Int) (A : Option Addr) (cap : Nat) (w : World) (hr : Rd w .u8 A b) (hA : A = none → cap = 0) (hl : b.length ≤ 100000) (hbd : ∀ i : Nat, 0 ≤ b[i]?.getD 0 ∧ b[i]?.getD 0 ≤ 255) :
    Calls Tryd.prog 9 #[.slice A b.length cap] w (Gives .i32 (Tx.decode b) w) := by
  refine (callsIn_wide (n := 9)).1 ?_
  refine callsIn_of_wp_marks Tryd.func9 rfl trivial ?_ rfl
  simp only [Tryd.ntmps9, List.size_toArray, List.length_cons, List.length_nil, Nat.reduceAdd, Nat.reduceSub, Array.replicate_succ, Array.replicate_zero, List.push_toArray, List.append_toArray, List.nil_append, List.cons_append]
  obtain ⟨i0, hi, hz0, hz1, hz2⟩ := info_parts infoI32
  gi_wp2_with (gi_at_make; refine wpListIn_make_own _ rfl _ _ 29 rfl w.heap.size 21 i0 (.int .i32 0) 1 Tryd.underlying29 hi hz0 hz1 .i64 .i64 _ b.length rfl rfl rfl (by rw [hz2]; omega) (by unfold maxLen; omega) (Nat.le_refl _) ?_; intro w0 hown0 hgrow0)
  have hB0 : Below w.heap.size w ((w0.alloc (.cells #[.slice (some ⟨w.heap.size, 0, none⟩) 0 b.length] 29)).alloc (.cells #[.bool false] 4)) :=
    (((Below.refl _ _).grown hgrow0 (Nat.le_refl _) (fun k e => by cases e)).alloc hgrow0.size _).alloc (by have := hgrow0.size; simp; omega) _
  have bR := (Boxed.new w0 29 (.slice (some ⟨w.heap.size, 0, none⟩) 0 b.length)).alloc (.cells #[.bool false] 4)
  have bT := Boxed.new (w0.alloc (.cells #[.slice (some ⟨w.heap.size, 0, none⟩) 0 b.length] 29)) 4 (.bool false)
  have hrow := (hown0.alloc (.cells #[.slice (some ⟨w.heap.size, 0, none⟩) 0 b.length] 29)).alloc (.cells #[.bool false] 4)
  have hz := hgrow0.size
  have HD := Lib.hid (signs_any b A cap _ (hr.below hB0) hA (by omega))
  clear hown0 hgrow0
  gi_wp2_with (refine ⟨trivial, ?_⟩; gi_at_call 14; refine (callsIn_wide.2 HD.out).mono ?_; rintro e w1 ⟨B1, A1, cap1, rfl, hB1, hsrc, hbl⟩)
  have bR1 := bR.kept (row := none) ⟨hbl.os, hbl.tape, hbl.output, hbl.size, fun k hk _ => hbl.block k hk⟩ (by simp)
  have bT1 := bT.kept (row := none) ⟨hbl.os, hbl.tape, hbl.output, hbl.size, fun k hk _ => hbl.block k hk⟩ (by simp)
  rw [World.size_alloc] at bT1
  have hrow1 := hrow.kept (row := none) ⟨hbl.os, hbl.tape, hbl.output, hbl.size, fun k hk _ => hbl.block k hk⟩ (by simp [Value.ownBlock])
  have hBw : Below w.heap.size w w1 := hB0.trans (hbl.mono hB0.size)
  clear bR bT hrow HD hbl hB0
  obtain ⟨R, hR⟩ : ∃ R, w0.heap.size = R := ⟨_, rfl⟩
  rw [hR] at bR1 bT1 hz
  rw [hR]
  replace hsrc := hsrc.weak
  clear hR hB1 w0
  refine wpIn_rangeFunc_ownF (F := Fence.wide) (n := 9) rfl (by omega) (gf := 23) (lb := #[.pointer (some ⟨B1, 0, none⟩)]) rfl trivial (enters_of Tryd.func23 (by kernel_rfl) rfl)
    (signs1_stops 8 (by omega) b 0 B1 A1 cap1 (by omega) hbd w1 hsrc) src_kt (fun W l o o' _ h1 h2 _ => src_kb W l o o' h1 h2) (Below.refl _ _) (fun _ => rfl)
    (DecI w R)
    (fun _ _ _ => False)
    (OwnFrom.and (OwnFrom.and (Own.from (holdsRow_own w.heap.size R 29 21 1 (fun pre => (Tx.decTo pre).1.length) (fun pre => (Tx.decTo pre).1.map (Value.int .i32)) (fun _ _ => True)) _) (Own.from (boxed_own _ _ _) _)) (ownFrom_below (Nat.le_refl _) hBw.size))
    (fun _ _ _ _ _ hs _ _ => hs)
    ⟨⟨⟨_, bR1, hrow1, trivial⟩, bT1⟩, hBw⟩
    (fun x => { tmps := #[.slice A b.length cap, undef, .slice none 0 0, .pointer (some ⟨R, 0, none⟩), .pointer (some ⟨R + 1, 0, none⟩), .int .i64 x.1, .int .i32 x.2, .slice A b.length cap, .int .i64 b.length, .slice (some ⟨w.heap.size, 0, none⟩) 0 b.length, .slice A b.length cap, .func (.func 23) #[] #[.pointer (some ⟨B1, 0, none⟩)], .int .i64 x.1, .int .i32 x.2, undef, undef, undef, undef, undef, undef, undef, undef, undef, undef, undef, undef, undef, undef, undef, undef, undef, undef, undef, undef, undef, undef, undef, undef, undef, undef], defers := [] }) ?assign ?body ?done ?stop
  case assign =>
    intro l x W K hK
    gi_wp2
    exact hK
  case body =>
    rintro l pre ⟨p, r⟩ W hI hlt
    have hI0 := hI
    obtain ⟨⟨⟨v, hv, hrow, _⟩, hT⟩, hB⟩ := hI
    have hc := hv.cell
    have hct := hT.cell
    have hft := hT.frozen
    have hpl := Tx.decTo_len pre
    gi_wp2_with (gi_at_builtin; refine wpListIn_append_own _ rfl _ _ 29 rfl w.heap.size 21 i0 (.int .i32 0) 1 4 Tryd.underlying29 hi hz0 hz1 hz2 rfl (by decide) _ _ _ rfl (hrow.alloc _) ⟨W.heap.size, 0, none⟩ 1 1 _ rfl rfl (cell_one_new _ _ _) (by simp [Value.oneCell']) (by unfold maxLen; omega) (by omega) (by have := hB.size; simp; omega) ?_; intro v' w1 hown' hgrow hnn; clear hnn; obtain ⟨g', cap', rfl⟩ := ownsRow_succ hown'; have hv1 := (hv.alloc _).kept hgrow (hv.not_row (by decide) hrow); have hT1 := (hT.alloc _).kept hgrow (hT.not_row (by decide) hrow); have hc1 := hv1.cell; have hf1 := hv1.frozen; have hct1 := hT1.cell; have hft1 := hT1.frozen)
    all_goals
      first
      | exact dec_keep hz hI0 (Tx.dec_bom (by assumption) (by assumption) (by first | rfl | simp [*]))
      | exact dec_keep hz hI0 (Tx.dec_lf (by assumption) (by assumption) (by first | rfl | simp [*]))
      | exact dec_app hz hv hrow hT hB hown' hgrow (Tx.dec_cr (by assumption) (by first | rfl | (symm; assumption)))
      | exact dec_app hz hv hrow hT hB hown' hgrow (Tx.dec_other (.inl (by assumption)) (by assumption) (.inl (by assumption)) (by first | rfl | (symm; assumption)))
      | exact dec_app hz hv hrow hT hB hown' hgrow (Tx.dec_other (.inr (by assumption)) (by assumption) (.inl (by assumption)) (by first | rfl | (symm; assumption)))
      | exact dec_app hz hv hrow hT hB hown' hgrow (Tx.dec_other (.inl (by assumption)) (by assumption) (.inr (by assumption)) (by first | rfl | (symm; assumption)))
      | exact dec_app hz hv hrow hT hB hown' hgrow (Tx.dec_other (.inr (by assumption)) (by assumption) (.inr (by assumption)) (by first | rfl | (symm; assumption)))
      | exact dec_app hz hv hrow hT hB hown' hgrow (Tx.dec_ten (by assumption) (by assumption) (by first | rfl | (symm; assumption) | simp [*]))
  case done =>
    rintro D ys W hD rfl ⟨⟨⟨v, hv, hrow, _⟩, hT⟩, hB⟩ hK
    have hc := hv.cell
    gi_wp2
    refine ⟨by simp, .inl ⟨_, _, rfl, run_takeDeferred hK, ?_⟩⟩
    have hrow' := ownsRow_putObj hrow (.deferred none) hK rfl
    obtain ⟨A', cap', rfl, _, hle, hnone, hrd⟩ := Rd.own hrow'
    exact ⟨_, results_tmp rfl _ _ _, A', cap', rfl, hrd, hle, hnone, hB.trans (belowK_b (w := w) (Nat.le_refl _) W D _ _ (by have := hBw.size; omega) hK rfl rfl)⟩
  case stop =>
    rintro D c pre W _ _ h _
    exact h.elim

end Go.Proofs.YtfjbelkpblgfiaaDoor
