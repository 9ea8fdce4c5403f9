/- The contract of Words. -/
import Derived.Test.YtfkbjniodomdjaaHg
import Derived.RangeFuncCalls
namespace Go.Proofs.Ytfkbjniodomdjaa
open Go.RowKit Go.Shelf Go.Lib
attribute [local go_sem] Oper.semAt_some

section
variable {base D : Nat} {v : Value} {qk : Bool} {ns : List Nd}
theorem txts_len {ns : List Nd} (hz : ∀ z ∈ ns, z.data.size ≤ 1000000) : ∀ o : List (Int × Nat), (txts ns o).length ≤ o.length * 1000000
  | [] => by simp [txts]
  | x :: o => by
    have ih := txts_len hz o
    have h1 : (txtN ns x.1).length ≤ 1000000 := by
      unfold txtN
      split
      · cases hq : inN ns x.1 with
        | false => rw [atN_none hq]; simp
        | true =>
          obtain ⟨i, z, e, hi⟩ := inN_at hq
          rw [e, atN_some hi]
          have := hz z (List.mem_of_getElem? hi)
          simpa using this
      · simp
    have h2 : txts ns (x :: o) = txtN ns x.1 ++ txts ns o := rfl
    rw [h2, List.length_append, List.length_cons]
    omega
/-- the blocks of a tree are cells -/
theorem DocM.isCells {W : World} (h : DocM base D v qk ns W) : ∀ k, DB D v ns k → ∃ cur t, W.heap[k]? = some (.cells cur t (0, 0)) := by
  have row : ∀ {b e sz m : Nat} {u : Value} {vs : List Value}, W.ownsRow b e sz u m vs → ∀ k, u.ownBlock = some k → ∃ cur t, W.heap[k]? = some (.cells cur t (0, 0)) := by
    intro b e sz m u vs ho k hk
    rcases ho.2 with ⟨h1, _⟩ | ⟨g, cap, cur, h1, _, hg, _⟩
    · rw [h1] at hk; cases hk
    · rw [h1] at hk
      simp [Value.ownBlock] at hk
      subst hk
      exact ⟨cur, _, hg⟩
  rintro k (rfl | e | ⟨i, x, hx, e | e⟩)
  · exact ⟨_, _, h.hd⟩
  · exact row h.row k e
  · exact row (h.kids i x hx) k e
  · exact row (h.attrs i x hx) k e
set_option maxRecDepth 100000 in
set_option maxHeartbeats 4000000 in
theorem words_any (n : Int) (w : World) (h : DocM base D v qk ns w) (hl : ns.length ≤ 100000) (hz : ∀ z ∈ ns, z.data.size ≤ 1000000) (o : List (Int × Nat)) (lf : Nat) (b : Bool) (hvis : Vis ns ns.length (kdN ns (srcN ns n)) 1 o lf b) :
    Calls Try.prog 19 #[.pointer (some ⟨D, 0, none⟩), .int .i64 n] w fun e w' => e = .returned (.string ⟨(txts ns o).toArray⟩) ∧ Below w.heap.size w w' := by
  refine (callsIn_wide (n := 9)).1 ?_
  refine callsIn_of_wp_marks Try.func19 rfl trivial ?_ rfl
  simp only [Try.ntmps19, List.size_toArray, List.length_cons, List.length_nil, Nat.reduceAdd, Nat.reduceSub, Array.replicate_succ, Array.replicate_zero, List.push_toArray, List.append_toArray, List.nil_append, List.cons_append]
  have KW := Lib.hid (fun W => walk_any D n W)
  have hdlt : ∀ k, DB D v ns k → k < w.heap.size := fun k hk => (h.in_ k hk).2
  have H := Lib.hid h
  have HV := Lib.hid hvis
  have HZ := Lib.hid hz
  have HD := Lib.hid hdlt
  clear h hvis hz hdlt
  refine wpIn_wide.2 ?_
  go_wp2_with fail
  refine (KW.out _).mono ?_
  rintro e w3 ⟨rfl, rfl⟩
  obtain ⟨W4, hW4⟩ : ∃ W4, (((w.alloc (.cells #[.pointer (some ⟨D, 0, none⟩)] 24)).alloc (.cells #[.pointer none, .slice none 0 0] 91)).alloc (.cells #[.pointer (some ⟨D, 0, none⟩)] 24)).alloc (.cells #[.int .i64 n] 3) = W4 := ⟨_, rfl⟩
  have hs4 : W4.heap.size = w.heap.size + 4 := by rw [← hW4]; simp
  have hb4 : Below w.heap.size w W4 := by rw [← hW4]; exact ((((Below.refl _ w).alloc (Nat.le_refl _) _).alloc (by simp) _).alloc (by simp; omega) _).alloc (by simp; omega) _
  have g0 : W4.heap[w.heap.size]? = some (.cells #[.pointer (some ⟨D, 0, none⟩)] 24 (0, 0)) := by
    rw [← hW4, Below.heap_alloc _ _ _ (by first | (simp; done) | (simp; omega)), Below.heap_alloc _ _ _ (by first | (simp; done) | (simp; omega)), Below.heap_alloc _ _ _ (by first | (simp; done) | (simp; omega))]
    exact heap_alloc_new w _
  have g1 : W4.heap[w.heap.size + 1]? = some (.cells #[.pointer none, .slice none 0 0] 91 (0, 0)) := by
    rw [← hW4, Below.heap_alloc _ _ _ (by first | (simp; done) | (simp; omega)), Below.heap_alloc _ _ _ (by first | (simp; done) | (simp; omega))]
    have := heap_alloc_new (w.alloc (.cells #[.pointer (some ⟨D, 0, none⟩)] 24)) (.cells #[.pointer none, .slice none 0 0] 91)
    simpa using this
  have g2 : W4.heap[w.heap.size + 2]? = some (.cells #[.pointer (some ⟨D, 0, none⟩)] 24 (0, 0)) := by
    rw [← hW4, Below.heap_alloc _ _ _ (by first | (simp; done) | (simp; omega))]
    have := heap_alloc_new ((w.alloc (.cells #[.pointer (some ⟨D, 0, none⟩)] 24)).alloc (.cells #[.pointer none, .slice none 0 0] 91)) (.cells #[.pointer (some ⟨D, 0, none⟩)] 24)
    simpa using this
  have g3 : W4.heap[w.heap.size + 3]? = some (.cells #[.int .i64 n] 3 (0, 0)) := by
    rw [← hW4]
    have := heap_alloc_new (((w.alloc (.cells #[.pointer (some ⟨D, 0, none⟩)] 24)).alloc (.cells #[.pointer none, .slice none 0 0] 91)).alloc (.cells #[.pointer (some ⟨D, 0, none⟩)] 24)) (.cells #[.int .i64 n] 3)
    simpa using this
  have hd4 := H.out.below hb4
  have hWI : WI w D base v qk ns [] W4 := ⟨hb4, g0, g2, hd4, HD.out, .slice none 0 0, ⟨_, .inl rfl, g1⟩, World.ownsRow_nil _ _ _ _, by simp [Value.ownBlock]⟩
  have hSrc : SrcD (w.heap.size + 2) base D v qk ns W4 := ⟨g2, hd4⟩
  have hSE := iterW_e 8 (by omega) n o lf b HV.out (by omega) W4 hSrc g3
  have hz2 : ((w.alloc (.cells #[.pointer (some ⟨D, 0, none⟩)] 24)).alloc (.cells #[.pointer none, .slice none 0 0] 91)).heap.size = w.heap.size + 1 + 1 := by simp
  rw [hz2, hW4]
  have HWI := Lib.hid hWI
  have HSE := Lib.hid hSE
  have hEb : W4.heap.size + 2 = w.heap.size + 6 := by omega
  clear hz2 hW4 hb4 g0 g1 g2 g3 hd4 hWI hSrc hSE H HV KW
  go_wp2
  refine (wpIn_wide (n := 9)).1 ?_
  refine range_E rfl (enters_of Try.func45 (by kernel_rfl) rfl) HSE.out
    (fun h1 h2 => ⟨Nat.le_trans h1.1 h2.1, fun k a1 a2 a3 => (h2.2.1 k a1 a2 (Nat.lt_of_lt_of_le a3 h1.1)).trans (h1.2.1 k a1 a2 a3), fun hs => h2.2.2 (h1.2.2 hs)⟩)
    (fun B W l o o' hlB hlo hoc => ⟨by simp, fun k a1 a2 a3 => World.putObj_heap_other (by omega), fun hs => hs.keep (S := fun k => k = l) (Frm.grown (grownBy_putObj' W l o') (fun k e => by cases e; rfl)) (fun e => by
      have := hs.bd
      rw [e, hlo] at this
      cases this
      cases hoc) (fun k hk e => by
      subst e
      obtain ⟨cur, t, h2⟩ := hs.doc.isCells k hk
      rw [hlo] at h2
      cases h2
      cases hoc)⟩)
    (fun _ => rfl)
    (fun pre W => WI w D base v qk ns (txts ns pre) W)
    (fun _ _ _ => False)
    (WI.own hs4) (fun _ => fun _ _ _ _ h _ _ => h) (WI.abides hEb) (fun _ => fun _ _ _ _ h _ _ => h) HWI.out ?a1 ?assign ?body ?done ?stop
  case assign =>
    intro l x W K hK
    gi_wp2
    exact hK
  case body =>
    rintro l pre ⟨k, d⟩ W hI hlt2 hsz
    obtain ⟨vb, hbld⟩ := hI.bld
    have HI := Lib.hid hI
    have HBL := Lib.hid hbld
    have cb : W.cell? ⟨w.heap.size, 0, none⟩ = some (.pointer (some ⟨D, 0, none⟩)) := by rw [cell_of_row _ _ _ _ _ _ hI.bd]; rfl
    have KK := Lib.hid (kind_any k W hI.doc)
    obtain ⟨kz, hkz⟩ : ∃ k', atN ns k Nd.kind 0 = k' := ⟨_, rfl⟩
    rw [hkz] at KK
    by_cases h3 : kz = 3
    · have d3 : (kz == 3) = true := by rw [h3]; rfl
      have hin : inN ns k = true := by
        cases hq : inN ns k with
        | true => rfl
        | false => rw [atN_none hq] at hkz; omega
      obtain ⟨q, z, rfl, hzq⟩ := inN_at hin
      have hql := (List.getElem?_eq_some_iff.1 hzq).1
      obtain ⟨Av, c, hv, _, _, hgv⟩ := hI.doc.sl
      obtain ⟨g, rfl, _, _⟩ := hgv (by omega)
      subst hv
      obtain ⟨c0, _, _⟩ := hI.doc.cells
      have cd : W.cell? ⟨g, q * 10 + 3, none⟩ = some (.string z.data) := hI.doc.cell hzq (by omega)
      have htx : Lib.byteCells (txts ns (pre ++ [((q : Int), d)])) = Lib.byteCells (txts ns pre) ++ Lib.strCells z.data := by
        have e1 : txts ns (pre ++ [((q : Int), d)]) = txts ns pre ++ z.data.data.toList := by
          unfold txts
          rw [List.flatMap_append]
          congr 1
          show txtN ns (q : Int) ++ [] = _
          unfold txtN
          rw [hkz, d3, if_pos rfl, List.append_nil]
          exact congrArg (fun s : ByteArray => s.data.toList) (atN_some hzq)
        rw [e1, Lib.strCells_eq]
        unfold Lib.byteCells
        rw [List.map_append]
      have hln := txts_len HZ.out pre
      have hzs := HZ.out z (List.mem_of_getElem? hzq)
      have KR := Lib.hid (write_bld (w.heap.size + 1) (w.heap.size + 9) vb (Lib.byteCells (txts ns pre)) z.data W hbld (by rw [Lib.byteCells_length]; omega) (by omega))
      rw [← htx] at KR
      clear hI hbld hkz h3 hin hzq hgv htx hln hzs HWI HSE
      gi_wp2_with (first
        | (refine ⟨trivial, ?_⟩; gi_at_call 13; refine (CallsIn.inRound l (callsIn_wide.2 KK.out)).mono ?_; rintro e w2 ⟨rfl, rfl⟩)
        | (refine ⟨trivial, ?_⟩; gi_at_call 49; refine (CallsIn.inRound l (callsIn_wide.2 KR.out)).mono ?_; rintro e W2 ⟨rfl, vb', hb', hf⟩))
      obtain ⟨r1, r2, r3⟩ := HI.out.wrote HBL.out hb' hf
      exact ⟨r2, by rw [hEb]; exact r3, r1⟩
    · have d3 : (kz == 3) = false := by rw [beq_eq_false_iff_ne]; exact h3
      have htx : txts ns (pre ++ [(k, d)]) = txts ns pre := by
        unfold txts
        rw [List.flatMap_append]
        show _ ++ (txtN ns k ++ []) = _
        unfold txtN
        rw [hkz, d3, if_neg (by decide)]
        simp
      have HTX := Lib.hid htx
      clear hI hbld hkz h3 htx HWI HSE
      gi_wp2_with (refine ⟨trivial, ?_⟩; gi_at_call 13; refine (CallsIn.inRound l (callsIn_wide.2 KK.out)).mono ?_; rintro e w2 ⟨rfl, rfl⟩)
      refine ⟨KeepsOthers.refl _, ⟨Nat.le_refl _, fun _ _ _ _ => rfl, fun h => h⟩, ?_⟩
      show WI w D base v qk ns (txts ns (pre ++ [(k, d)])) _
      rw [HTX.out]
      exact HI.out
  case stop =>
    rintro D2 c pre W _ _ h _
    exact h.elim
  case done =>
    rintro D2 xs W hD rfl hI hK
    obtain ⟨vb, hbld⟩ := hI.bld
    have KS := Lib.hid (str_bld (w.heap.size + 1) (w.heap.size + 9) vb (txts ns xs) W hbld)
    have HI := Lib.hid hI
    have HBL := Lib.hid hbld
    have HK := Lib.hid hK
    clear hI hbld hK HWI HSE
    go_wp2_with fail
    refine KS.out.mono ?_
    rintro e W2 ⟨rfl, hf⟩
    have hK2 : W2.heap[D2]? = some (.deferred (some [])) := (hf.block D2 (Array.getElem?_eq_some_iff.1 HK.out).1 (fun e => by
      rcases HBL.out.2.1.2 with ⟨h1, _⟩ | ⟨g, cap, cur, h1, _, hg2, _⟩
      · rw [h1] at e; cases e
      · rw [h1] at e
        simp [Value.ownBlock] at e
        subst e
        have := HK.out
        rw [hg2] at this
        cases this)).trans HK.out
    have hb2 : Below w.heap.size w W2 := HI.out.bw.trans (hf.toBelow HI.out.bw.size (fun k e => by have := (HBL.out.2.1.lt k e).1; omega))
    have HK2 := Lib.hid hK2
    have HB2 := Lib.hid hb2
    clear hK2 hb2 hf
    go_wp2
    refine ⟨by simp, .inl ⟨_, _, rfl, run_takeDeferred HK2.out, ?_⟩⟩
    refine ⟨.string _, ?_, rfl, ?_⟩
    · simp [results, Try.f19, go_sem]
    · exact HB2.out.trans ((Frm.grown (grownBy_putObj' _ D2 _) (fun k e => by cases e; rfl) : Frm (fun k => k = D2) _ _).toBelow HB2.out.size (fun k e => by omega))
end
end Go.Proofs.Ytfkbjniodomdjaa
