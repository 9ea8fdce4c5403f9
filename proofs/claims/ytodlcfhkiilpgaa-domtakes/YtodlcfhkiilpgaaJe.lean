/- Deep: how deep all beneath a node goes. -/
import Derived.Test.YtodlcfhkiilpgaaZF
import Derived.RangeFuncCalls
namespace Go.Proofs.Ytodlcfhkiilpgaa
open Go.RowKit Go.Shelf Go.Lib
attribute [local go_sem] Oper.semAt_some

def maxD (o : List (Int × Nat)) : Nat := o.foldl (fun m x => max m x.2) 0
theorem maxD_snoc (o : List (Int × Nat)) (x : Int × Nat) : maxD (o ++ [x]) = max (maxD o) x.2 := by unfold maxD; rw [List.foldl_append]; rfl
/-- what the range keeps -/
structure DpI (w : World) (D : Nat) (base : Nat) (v : Value) (qk : Bool) (ns : List Nd) (m : Nat) (W : World) : Prop where
  bw : Below w.heap.size w W
  bm : W.heap[w.heap.size]? = some (.cells #[.int .i64 m] 3 (0, 0))
  bd : W.heap[w.heap.size + 1]? = some (.cells #[.pointer (some ⟨D, 0, none⟩)] 23 (0, 0))
  doc : DocM base D v qk ns W
  dlt : ∀ k, DB D v ns k → k < w.heap.size
section
variable {w : World} {D base : Nat} {v : Value} {qk : Bool} {ns : List Nd} {m : Nat} {W W' : World}
theorem DpI.keep {S : Nat → Prop} (h : DpI w D base v qk ns m W) (hf : Frm S W W') (hS : ∀ k, S k → w.heap.size + 3 ≤ k) : DpI w D base v qk ns m W' := by
  have hs := h.bw.size
  exact ⟨h.bw.trans (hf.toBelow hs (fun k hk => by have := hS k hk; omega)), (hf.block _ (Array.getElem?_eq_some_iff.1 h.bm).1 (fun e => by have := hS _ e; omega)).trans h.bm, (hf.block _ (Array.getElem?_eq_some_iff.1 h.bd).1 (fun e => by have := hS _ e; omega)).trans h.bd, h.doc.keep hf (fun k hk e => by have := h.dlt k hk; have := hS k e; omega), h.dlt⟩
theorem DpI.own {f : List (Int × Nat) → Nat} {B : Nat} (hB : B = w.heap.size + 3) : OwnFrom B (fun s W => DpI w D base v qk ns (f s) W) := by
  rintro s X Y row h hg hr
  exact h.keep (S := fun k => row = some k) (Frm.grown hg (fun k e => e)) (fun k e => by have := (hr k e).1; omega)
theorem DpI.abides {f : List (Int × Nat) → Nat} {B c : Nat} (hB : B = w.heap.size + 5) : AbidesE B c (fun s W => DpI w D base v qk ns (f s) W) := by
  rintro s X Y row h hg hr
  exact h.keep (S := fun k => row = some k) (Frm.grown hg (fun k e => e)) (fun k e => by have := (hr k e).1; omega)
theorem DpI.turn {m' : Nat} (h : DpI w D base v qk ns m W) : DpI w D base v qk ns m' (W.setCell ⟨w.heap.size, 0, none⟩ (.int .i64 m')) ∧ KeepsOthers W (W.setCell ⟨w.heap.size, 0, none⟩ (.int .i64 m')) ∧ KpW (w.heap.size + 1) base D v qk ns (w.heap.size + 5) W (W.setCell ⟨w.heap.size, 0, none⟩ (.int .i64 m')) := by
  have hF : Frm (fun k => k = w.heap.size) W (W.setCell ⟨w.heap.size, 0, none⟩ (.int .i64 m')) := Frm.set _ rfl
  have hd : DocM base D v qk ns W → DocM base D v qk ns (W.setCell ⟨w.heap.size, 0, none⟩ (.int .i64 m')) := fun hd => hd.keep hF (fun k hk e => by have := h.dlt k hk; omega)
  have hb : ∀ k, k ≠ w.heap.size → k < W.heap.size → (W.setCell ⟨w.heap.size, 0, none⟩ (.int .i64 m')).heap[k]? = W.heap[k]? := fun k hk hl => hF.block k hl hk
  refine ⟨⟨h.bw.trans (hF.toBelow h.bw.size (fun k e => by omega)), heap_setCell_same _ _ 0 _ _ _ h.bm, (hb _ (by omega) (Array.getElem?_eq_some_iff.1 h.bd).1).trans h.bd, hd h.doc, h.dlt⟩, ⟨hF.size, fun k o hk ho => ?_⟩, hF.size, fun k h1 h2 h3 => hb k (by omega) h3, fun hs => ⟨(hb _ (by omega) (Array.getElem?_eq_some_iff.1 hs.bd).1).trans hs.bd, hd hs.doc⟩⟩
  refine (hb k (fun e => ?_) (Array.getElem?_eq_some_iff.1 hk).1).trans hk
  rw [e, h.bm] at hk
  cases hk
  cases ho
set_option maxRecDepth 100000 in
set_option maxHeartbeats 4000000 in
theorem deep_any (n : Int) (w : World) (h : DocM base D v qk ns w) (hl : ns.length ≤ 100000) (o : List (Int × Nat)) (lf : Nat) (b : Bool) (hvis : Vis ns ns.length (kdN ns (srcN ns n)) 1 o lf b) :
    Calls Try.prog 26 #[.pointer (some ⟨D, 0, none⟩), .int .i64 n] w fun e w' => e = .returned (.int .i64 (maxD o)) ∧ Below w.heap.size w w' := by
  refine (callsIn_wide (n := 9)).1 ?_
  refine callsIn_of_wp_marks Try.func26 rfl trivial ?_ rfl
  simp only [Try.ntmps26, List.size_toArray, List.length_cons, List.length_nil, Nat.reduceAdd, Nat.reduceSub, Array.replicate_succ, Array.replicate_zero, List.push_toArray, List.append_toArray, List.nil_append, List.cons_append]
  have KW := Lib.hid (fun W => walk_any D n W)
  have hdlt : ∀ k, DB D v ns k → k < w.heap.size := fun k hk => (h.in_ k hk).2
  have H := Lib.hid h
  have HV := Lib.hid hvis
  have HD := Lib.hid hdlt
  clear h hvis hdlt
  refine wpIn_wide.2 ?_
  go_wp2_with fail
  refine (KW.out _).mono ?_
  rintro e w3 ⟨rfl, rfl⟩
  obtain ⟨W4, hW4⟩ : ∃ W4, ((w.alloc (.cells #[.int .i64 0] 3)).alloc (.cells #[.pointer (some ⟨D, 0, none⟩)] 23)).alloc (.cells #[.int .i64 n] 3) = W4 := ⟨_, rfl⟩
  have hs4 : W4.heap.size = w.heap.size + 3 := by rw [← hW4]; simp
  have hb4 : Below w.heap.size w W4 := by rw [← hW4]; exact (((Below.refl _ w).alloc (Nat.le_refl _) _).alloc (by simp) _).alloc (by simp; omega) _
  have g0 : W4.heap[w.heap.size]? = some (.cells #[.int .i64 0] 3 (0, 0)) := by
    rw [← hW4, Below.heap_alloc _ _ _ (by first | (simp; done) | (simp; omega)), Below.heap_alloc _ _ _ (by first | (simp; done) | (simp; omega))]
    exact heap_alloc_new w _
  have g1 : W4.heap[w.heap.size + 1]? = some (.cells #[.pointer (some ⟨D, 0, none⟩)] 23 (0, 0)) := by
    rw [← hW4, Below.heap_alloc _ _ _ (by first | (simp; done) | (simp; omega))]
    have := heap_alloc_new (w.alloc (.cells #[.int .i64 0] 3)) (.cells #[.pointer (some ⟨D, 0, none⟩)] 23)
    simpa using this
  have g2 : W4.heap[w.heap.size + 2]? = some (.cells #[.int .i64 n] 3 (0, 0)) := by
    rw [← hW4]
    have := heap_alloc_new ((w.alloc (.cells #[.int .i64 0] 3)).alloc (.cells #[.pointer (some ⟨D, 0, none⟩)] 23)) (.cells #[.int .i64 n] 3)
    simpa using this
  have hd4 := H.out.below hb4
  have hDI : DpI w D base v qk ns 0 W4 := ⟨hb4, g0, g1, hd4, HD.out⟩
  have hSrc : SrcD (w.heap.size + 1) base D v qk ns W4 := ⟨g1, hd4⟩
  have hSE := iterW_e 8 (by omega) n o lf b HV.out (by omega) W4 hSrc g2
  have hz2 : (w.alloc (.cells #[.int .i64 0] 3)).heap.size = w.heap.size + 1 := by simp
  rw [hz2, hW4]
  have HDI := Lib.hid hDI
  have HSE := Lib.hid hSE
  have hEb : W4.heap.size + 2 = w.heap.size + 5 := by omega
  clear hz2 hW4 hb4 g0 g1 g2 hd4 hDI hSrc hSE H HV KW
  go_wp2
  refine (wpIn_wide (n := 9)).1 ?_
  refine range_E rfl (enters_of Try.func48 (by kernel_rfl) rfl) HSE.out
    (fun h1 h2 => ⟨Nat.le_trans h1.1 h2.1, fun k a1 a2 a3 => (h2.2.1 k a1 a2 (Nat.lt_of_lt_of_le a3 h1.1)).trans (h1.2.1 k a1 a2 a3), fun hs => h2.2.2 (h1.2.2 hs)⟩)
    (fun B W l o o' hlB hlo hoc => ⟨by simp, fun k a1 a2 a3 => World.putObj_heap_other (by omega), fun hs => hs.keep (S := fun k => k = l) (Frm.grown (grownBy_putObj' W l o') (fun k e => by cases e; rfl)) (fun e => by
      have := hs.bd
      rw [e, hlo] at this
      cases this
      cases hoc) (fun k hk e => by
      subst e
      obtain ⟨cur, t, h2⟩ := hs.doc.isCells k hk
      rw [hlo] at h2
      cases h2
      cases hoc)⟩)
    (fun _ => rfl)
    (fun pre W => DpI w D base v qk ns (maxD pre) W)
    (fun _ _ _ => False)
    (DpI.own hs4) (fun _ => fun _ _ _ _ h _ _ => h) (DpI.abides hEb) (fun _ => fun _ _ _ _ h _ _ => h) HDI.out ?a1 ?assign ?body ?done ?stop
  case assign =>
    intro l x W K hK
    gi_wp2
    exact hK
  case body =>
    rintro l pre ⟨k, d⟩ W hI hlt2 hsz
    have cm : W.cell? ⟨w.heap.size, 0, none⟩ = some (.int .i64 (maxD pre)) := by rw [cell_of_row _ _ _ _ _ _ hI.bm]; rfl
    have fm : W.frozen? ⟨w.heap.size, 0, none⟩ = false := by simp [World.frozen?, hI.bm]
    have hT := hI.turn (m' := maxD (pre ++ [(k, d)]))
    rw [maxD_snoc] at hT
    have HT := Lib.hid hT
    clear hI hT HDI HSE
    gi_wp2
    rw [show max ((maxD pre : Nat) : Int) (d : Int) = ((max (maxD pre) d : Nat) : Int) by omega]
    obtain ⟨r1, r2, r3⟩ := HT.out
    refine ⟨r2, ?_, ?_⟩
    · rw [show w.heap.size + 3 + 2 = w.heap.size + 5 by omega]
      exact r3
    · show DpI w D base v qk ns (maxD (pre ++ [(k, d)])) _
      rw [maxD_snoc]
      exact r1
  case stop =>
    rintro D2 c pre W _ _ h _
    exact h.elim
  case done =>
    rintro D2 xs W hD rfl hI hK
    have cm : W.cell? ⟨w.heap.size, 0, none⟩ = some (.int .i64 (maxD xs)) := by rw [cell_of_row _ _ _ _ _ _ hI.bm]; rfl
    have HI := Lib.hid hI
    have HK := Lib.hid hK
    clear hI hK HDI HSE
    go_wp2
    refine ⟨by simp, .inl ⟨_, _, rfl, run_takeDeferred HK.out, ?_⟩⟩
    refine ⟨.int .i64 _, ?_, rfl, ?_⟩
    · simp [results, Try.f26, go_sem]
    · exact HI.out.bw.trans ((Frm.grown (grownBy_putObj' _ D2 _) (fun k e => by cases e; rfl) : Frm (fun k => k = D2) _ _).toBelow HI.out.bw.size (fun k e => by omega))
end
end Go.Proofs.Ytodlcfhkiilpgaa
