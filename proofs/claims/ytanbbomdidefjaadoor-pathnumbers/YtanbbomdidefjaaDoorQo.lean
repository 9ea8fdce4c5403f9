/- The law PathNumbers, walked. -/
import Derived.Test.YtanbbomdidefjaaDoorQn
namespace Go.Proofs.YtanbbomdidefjaaDoor
open Go.RowKit Go.Shelf Go.Lib
attribute [local go_sem] Oper.semAt_some

set_option maxRecDepth 100000 in
set_option maxHeartbeats 2000000 in
theorem pathNumbers_short (zs : List Int) (A : Option Addr) (cap : Nat) (w : World) (hr : Rd w .i64 A zs) (hz : ∀ z ∈ zs, I64 z) (hm : MX w) (hl : zs.length ≤ 60) :
    Calls Tryd.prog 4 #[.slice A zs.length cap] w fun e w' => e = .returned (.bool true) ∧ Below w.heap.size w w' := by
  refine (callsIn_wide (n := 9)).1 ?_
  refine callsIn_of_wp_marks Tryd.func4 rfl trivial ?_ rfl
  simp only [Tryd.ntmps4, List.size_toArray, List.length_cons, List.length_nil, Nat.reduceAdd, Nat.reduceSub, Array.replicate_succ, Array.replicate_zero, List.push_toArray, List.append_toArray, List.nil_append, List.cons_append]
  have hd0 : decide ((60 : Int) < (zs.length : Int)) = false := decide_eq_false (by omega)
  have KH := Lib.hid (head6_any (w.alloc (.cells #[.bool false] 4)) (hm.below ((Below.refl _ _).alloc (Nat.le_refl _) _)))
  have HR := Lib.hid hr
  have HZ := Lib.hid hz
  clear hr hz hm
  refine wpIn_wide.2 ?_
  go_wp2_with fail
  refine KH.out.mono ?_
  rintro e w1 ⟨rfl, hb1⟩
  have hmk := fun w => run_mkb w
  have hw1 : w.heap.size < w1.heap.size := by have := hb1.size; simp at this; omega
  have hP0 : PN w w1.heap.size (.slice none 0 0) (.slice none 0 0) [] 0 (((w1.alloc (.cells #[.slice none 0 0, .slice none 0 0] 45)).alloc (.map #[] 0)).alloc (.cells #[.map (some (w1.heap.size + 1))] 46)) := by
    have e1 : (w1.alloc (.cells #[.slice none 0 0, .slice none 0 0] 45)).heap.size = w1.heap.size + 1 := by simp
    have hB1 : Below w.heap.size w w1 := ((Below.refl _ w).alloc (Nat.le_refl _) _).trans (hb1.mono (by simp))
    refine ⟨⟨?_, World.ownsRow_nil _ _ _ _, World.ownsRow_nil _ _ _ _, Nat.le_refl _⟩, ?_, ?_, ?_, ?_, hw1, List.Pairwise.nil⟩
    · rw [Below.heap_alloc _ _ _ (by simp; omega), Below.heap_alloc _ _ _ (by simp)]
      exact heap_alloc_new w1 _
    · have := MapB.new (w1.alloc (.cells #[.slice none 0 0, .slice none 0 0] 45))
      rw [e1] at this
      have h2 := this.ofBlock (w' := ((w1.alloc (.cells #[.slice none 0 0, .slice none 0 0] 45)).alloc (.map #[] 0)).alloc (.cells #[.map (some (w1.heap.size + 1))] 46)) (Below.heap_alloc _ _ _ (by simp))
      simpa using h2
    · have := heap_alloc_new ((w1.alloc (.cells #[.slice none 0 0, .slice none 0 0] 45)).alloc (.map #[] 0)) (.cells #[.map (some (w1.heap.size + 1))] 46)
      simpa using this
    · rw [Below.heap_alloc _ _ _ (by simp; omega), Below.heap_alloc _ _ _ (by simp; omega), Below.heap_alloc _ _ _ hw1, hb1.block _ (by simp)]
      exact heap_alloc_new w _
    · exact ((hB1.alloc hB1.size _).alloc (by have := hB1.size; simp; omega) _).alloc (by have := hB1.size; simp; omega) _
  have HP0 := Lib.hid hP0
  clear hP0 hb1 KH
  obtain ⟨T, hT⟩ : ∃ T, w1.heap.size = T := ⟨_, rfl⟩
  rw [hT] at HP0 hw1
  go_wp2
  obtain ⟨W0, hW0⟩ : ∃ W0, (((w1.alloc (.cells #[.slice none 0 0, .slice none 0 0] 45)).alloc (.map #[] 0)).alloc (.cells #[.map (some (T + 1))] 46)) = W0 := ⟨_, rfl⟩
  rw [hW0] at HP0 ⊢
  clear hW0 hT hmk w1
  go_loopw [20] (fun iv wr => ∃ (p : Nat) (ns : List Int) (v1 v2 : Value), p ≤ zs.length ∧ iv = .int .i64 p ∧ Hid (PN w T v1 v2 ns p wr) ∧ Hid (∀ z, z ∈ ns ↔ z ∈ zs.take p)) (fun iv _ => zs.length - (intOf iv).toNat)
  case atStart => exact ⟨0, [], _, _, Nat.zero_le _, rfl, HP0, Lib.hid (fun z => by simp)⟩
  case round =>
    obtain ⟨p, ns, v1, v2, hp, rfl, HP, HM⟩ := hrel
    by_cases hlt : p < zs.length
    · obtain ⟨z, hzp⟩ : ∃ z, zs[p]? = some z := ⟨_, List.getElem?_eq_getElem hlt⟩
      have hzi : I64 z := HZ.out z (List.mem_of_getElem? hzp)
      obtain ⟨b, off, hA, hbl, hcs⟩ := HR.out.pos (by omega)
      have hcz : wr.cell? ⟨b, off + p, none⟩ = some (.int .i64 z) := by
        rw [HP.out.bw.cell (p := ⟨b, off + p, none⟩) hbl, hcs p hlt, hzp]; rfl
      subst hA
      have hbx : ∀ W : World, W.heap[T + 2]? = some (.cells #[.map (some (T + 1))] 46 (0, 0)) → W.cell? ⟨T + 1 + 1, 0, none⟩ = some (.map (some (T + 1))) := fun W h => by rw [cell_of_row W _ _ _ _ _ h]; rfl
      have hln : ns.length < 1000000 := by have := HP.out.mp.le; omega
      have HD := Lib.hid (HP.out.far (W' := wr.drew) (Frm.drewN _ wr 1))
      have HTD := Lib.hid (HP.out.tab.keep (W' := wr.drew) (S := fun _ => False) (Frm.drewN _ wr 1) (fun _ _ h => h))
      have k0 := hbx _ HD.out.2.1
      have k1 := HD.out.1.look0 z hzi
      have HTK := Lib.hid (show zs.take (p + 1) = zs.take p ++ [z] by rw [List.take_add_one, hzp]; rfl)
      clear hcs hzp
      by_cases hin : z ∈ ns
      · have e1 : decide (z ∈ ns) = true := decide_eq_true hin
        rw [e1] at k1
        have KP := Lib.hid (putIS_old z sA wr.drew HTD.out HP.out.srt hin hln)
        clear e1
        go_wp2_with fail
        go_region_held3 (fun w' => w'.cell? ⟨T + 1 + 1, 0, none⟩ = some (.map (some (T + 1))) ∧ (Instr.lookup 46 (.map (some (T + 1))) (.int .i64 z) false).run Tryd.prog w' = .ok (.bool true) w')
          (first | exact ⟨k0, k1⟩ | exact ⟨j0, j1⟩ | go_keep)
          (first | (go_at_call 13; refine KP.out.mono ?_; rintro e w2 ⟨rfl, htab2, hf2⟩; have HF2 := Lib.hid (HP.out.far ((Frm.drewN _ wr 1).trans hf2)); have j0 := hbx _ HF2.out.2.1; have j1 := HF2.out.1.look0 z hzi; rw [decide_eq_true hin] at j1))
        all_goals
          obtain ⟨w3, hrun3, hm3, hg3⟩ := HF2.out.1.set z hzi (by unfold maxLen; omega)
          have HP3 := Lib.hid (PN.next hw1 (by rw [← aa_set ns.length (plc ltI ns z)]; exact htab2) HF2.out.1 HF2.out.2.1 HF2.out.2.2.1 HF2.out.2.2.2 hg3 (hm3.ext (by rw [if_pos (decide_eq_true hin)]) (mem_old hin)) HP.out.srt)
          clear hm3 hg3 htab2 hf2 j1 k0 k1
          go_wp2
          go_roundw
          case rel => exact ⟨p + 1, ns, v1, v2, by omega, by go_num, HP3, Lib.hid (fun t => by
            rw [HTK.out, HM.out t, List.mem_append, List.mem_singleton]
            exact ⟨.inl, fun h => by rcases h with h | h; exact h; rw [h]; exact (HM.out z).1 hin⟩)⟩
          case measure => simp [intOf]; omega
      · have e1 : decide (z ∈ ns) = false := decide_eq_false hin
        rw [e1] at k1
        have KP := Lib.hid (putIS_new z sA wr.drew HTD.out (fun u hu => by rw [aa_mem hu]; rfl) HP.out.srt hin hln)
        clear e1
        go_wp2_with fail
        go_region_held3 (fun w' => w'.cell? ⟨T + 1 + 1, 0, none⟩ = some (.map (some (T + 1))) ∧ (Instr.lookup 46 (.map (some (T + 1))) (.int .i64 z) false).run Tryd.prog w' = .ok (.bool false) w')
          (first | exact ⟨k0, k1⟩ | exact ⟨j0, j1⟩ | go_keep)
          (first | (go_at_call 13; refine KP.out.mono ?_; rintro e w2 ⟨rfl, v1', v2', htab2, hf2, hnew2⟩; have HF2 := Lib.hid (HP.out.far ((Frm.drewN _ wr 1).trans hf2)); have j0 := hbx _ HF2.out.2.1; have j1 := HF2.out.1.look0 z hzi; rw [decide_eq_false hin] at j1))
        all_goals
          obtain ⟨w3, hrun3, hm3, hg3⟩ := HF2.out.1.set z hzi (by unfold maxLen; omega)
          have hle : plc ltI ns z ≤ ns.length := plc_le ns z
          have HP3 := Lib.hid (PN.next (ns := insAt ns (plc ltI ns z) z) hw1 (by rw [len_insAt _ _ _ hle, ← aa_ins ns.length _ hle]; exact htab2) HF2.out.1 HF2.out.2.1 HF2.out.2.2.1 HF2.out.2.2.2 hg3 (hm3.ext (by rw [if_neg (by simpa using hin), len_insAt _ _ _ hle]) (mem_new ns z _)) (srt_ins ordI ns z HP.out.srt hin))
          clear hm3 hg3 htab2 hf2 j1 k0 k1 hnew2
          go_wp2
          go_roundw
          case rel => exact ⟨p + 1, _, v1', v2', by omega, by go_num, HP3, Lib.hid (fun t => by
            rw [HTK.out, mem_insAt, HM.out t, List.mem_append, List.mem_singleton]
            exact ⟨fun h => h.symm, fun h => h.symm⟩)⟩
          case measure => simp [intOf]; omega
    · obtain rfl : p = zs.length := by omega
      have cb : wr.cell? ⟨T + 1 + 1, 0, none⟩ = some (.map (some (T + 1))) := by rw [cell_of_row wr _ _ _ _ _ HP.out.box]; rfl
      have KA := Lib.hid (fun W => allIS_any T W)
      go_wp2_with fail
      refine (KA.out _).mono ?_
      rintro e w3 ⟨rfl, rfl⟩
      have hh := HP.out.box_lt
      have hlen : (List.replicate ns.length sA).length = ns.length := by simp
      have h64 : ∀ z ∈ ns, I64 z := fun z hz => HZ.out z (List.mem_of_mem_take ((HM.out z).1 hz))
      have hnl : ns.length ≤ 60 := by have := HP.out.mp.le; omega
      obtain ⟨W1, hW1⟩ : ∃ W1, ((wr.alloc (.cells #[.int .i64 0] 3)).alloc (.cells #[.int .i64 0] 3)).alloc (.cells #[.pointer (some ⟨T, 0, none⟩)] 43) = W1 := ⟨_, rfl⟩
      have hs1 : W1.heap.size = wr.heap.size + 3 := by rw [← hW1]; simp
      have hb1 : Below wr.heap.size wr W1 := by rw [← hW1]; exact (((Below.refl _ wr).alloc (Nat.le_refl _) _).alloc (by simp) _).alloc (by simp; omega) _
      have c0 : W1.heap[wr.heap.size]? = some (.cells #[.int .i64 0] 3 (0, 0)) := by
        rw [← hW1, Below.heap_alloc _ _ _ (by simp; omega), Below.heap_alloc _ _ _ (by simp)]
        exact heap_alloc_new wr _
      have c1 : W1.heap[wr.heap.size + 1]? = some (.cells #[.int .i64 0] 3 (0, 0)) := by
        rw [← hW1, Below.heap_alloc _ _ _ (by simp)]
        have := heap_alloc_new (wr.alloc (.cells #[.int .i64 0] 3)) (.cells #[.int .i64 0] 3)
        simpa using this
      have c2 : W1.heap[wr.heap.size + 2]? = some (.cells #[.pointer (some ⟨T, 0, none⟩)] 43 (0, 0)) := by
        rw [← hW1]
        have := heap_alloc_new ((wr.alloc (.cells #[.int .i64 0] 3)).alloc (.cells #[.int .i64 0] 3)) (.cells #[.pointer (some ⟨T, 0, none⟩)] 43)
        simpa using this
      have hts : ∀ j, TS T v1 v2 j → j < wr.heap.size := fun j hj => (HP.out.tab.in_ j hj).2
      have hpn : PN w T v1 v2 ns zs.length W1 := by
        have hF : Frm (fun _ => False) wr W1 := Frm.below hb1
        have hlt := HP.out.lt
        exact ⟨HP.out.tab.below hb1, HP.out.mp.ofBlock (hb1.block _ (by omega)), (hb1.block _ (by omega)).trans HP.out.box, (hb1.block _ (by omega)).trans HP.out.res, HP.out.bw.trans (hb1.mono (by omega)), HP.out.lt, HP.out.srt⟩
      obtain ⟨R, hR⟩ : ∃ R, wr.heap.size = R := ⟨_, rfl⟩
      have hBW := hpn.bw
      rw [hR] at c0 c1 c2 hts hs1 hh
      have hPL : PL w T R v1 v2 ns zs.length 0 0 W1 := ⟨hpn, c0, c1, hh, hts⟩
      have hSrc : SrcIS (R + 1 + 1) T T v1 v2 ns (List.replicate ns.length sA) W1 := ⟨c2, hpn.tab⟩
      rw [hW1]
      have HS := Lib.hid hSrc
      have HPL := Lib.hid hPL
      have HSR := Lib.hid HP.out.srt
      have H64 := Lib.hid h64
      have HTS := Lib.hid hts
      have HBW := Lib.hid hBW
      clear hW1 hb1 c0 c1 c2 hts hpn hPL hSrc HP KA h64 hBW HP0 cb
      go_wp2
      refine (wpIn_wide (n := 9)).1 ?_
      refine wpIn_rangeFunc_ownF (F := Fence.wide) (n := 9) rfl (by omega) (gf := 28) (lb := #[.pointer (some ⟨R + 1 + 1, 0, none⟩)]) rfl trivial (enters_of Tryd.func28 (by kernel_rfl) rfl)
        (iterIS_stops 8 (by omega) (R + 1 + 1) T T v1 v2 ns (List.replicate ns.length sA) (by omega) (fun x => #[.int .i64 (norm x.1), .string x.2]) (fun x hx => by rw [norm_self (H64.out _ (List.of_mem_zip hx).1)]) W1 HS.out) srcIS_kt (fun W l o o' _ h1 h2 _ => srcIS_kb W l o o' h1 h2) (Below.refl _ _) (fun _ => rfl)
        (fun pre W => PL w T R v1 v2 ns zs.length pre.length (lastOf pre) W)
        (fun _ pre _ => ¬ pre <+: ns.zip (List.replicate ns.length sA))
        (PL.own (by omega) (fun pre => pre.length) lastOf)
        (fun _ _ _ _ _ hs _ _ => hs)
        HPL.out
        ?a1 ?assign ?body ?done ?stop
      case assign =>
        intro l x W K hK
        gi_wp2
        exact hK
      case body =>
        rintro l pre x W hI hlt2
        have HOK := Lib.hid (fun h => ok_pre (pre := pre) (x := x) hlen HSR.out H64.out h)
        have HI := Lib.hid hI
        obtain ⟨c0, c1, c2, c3⟩ := hI.cells
        obtain ⟨f0, f1, f3⟩ := hI.fz
        have kl := hI.pn.mp.look0 (norm x.1) (norm_i64 _)
        have HNX := Lib.hid (lastOf_snoc pre x)
        obtain ⟨n, hn⟩ : ∃ n, norm x.1 = n := ⟨_, rfl⟩
        obtain ⟨L, hL⟩ : ∃ L, lastOf pre = L := ⟨_, rfl⟩
        obtain ⟨m, hmm⟩ : ∃ m, pre.length = m := ⟨_, rfl⟩
        rw [hn] at kl HOK HNX
        rw [hL] at c0 HOK HI
        rw [hmm] at c1 HOK HI hlt2
        have hne : ¬ R = R + 1 := by omega
        have hneT : ¬ T + 1 + 1 = R := by omega
        have hneT' : ¬ T + 1 + 1 = R + 1 := by omega
        have HMM := Lib.hid hmm
        clear hI hL hmm hp hlt hR
        rw [hn]
        clear hn
        have fin : ∀ W2, W2 = (W.setCell ⟨R, 0, none⟩ (.int .i64 n)).setCell ⟨R + 1, 0, none⟩ (.int .i64 ((m : Int) + 1)) → KeepsOthers W W2 ∧ (SrcIS (R + 1 + 1) T T v1 v2 ns (List.replicate ns.length sA) W → SrcIS (R + 1 + 1) T T v1 v2 ns (List.replicate ns.length sA) W2) ∧ PL w T R v1 v2 ns zs.length (pre ++ [x]).length (lastOf (pre ++ [x])) W2 := by
          rintro W2 rfl
          refine ⟨(KeepsOthers.setCell _ _ _).trans (KeepsOthers.setCell _ _ _), fun hs => hs.set rfl HTS.out _ _, ?_⟩
          rw [HNX.out, List.length_append, HMM.out]
          exact HI.out.set (m + 1) n
        have HFin := Lib.hid fin
        clear fin
        by_cases hm0 : 0 < m
        · have d0 : decide ((0 : Int) < (m : Int)) = true := decide_eq_true (by omega)
          have d0' : decide (0 < m) = true := decide_eq_true hm0
          by_cases hnl2 : n ≤ L
          · have d1 : decide (n ≤ L) = true := decide_eq_true hnl2
            have HX := Lib.hid (show ¬ pre ++ [x] <+: ns.zip (List.replicate ns.length sA) from fun h => by have := (HOK.out h).2 hm0; omega)
            clear hnl2 hm0
            gi_wp2
            exact ⟨KeepsOthers.setCell _ _ _, HX.out⟩
          · have d1 : decide (n ≤ L) = false := decide_eq_false hnl2
            by_cases hin : n ∈ ns
            · rw [decide_eq_true hin] at kl
              clear hnl2 hm0 hin
              gi_wp2
              exact HFin.out _ rfl
            · rw [decide_eq_false hin] at kl
              have HX := Lib.hid (show ¬ pre ++ [x] <+: ns.zip (List.replicate ns.length sA) from fun h => hin (HOK.out h).1)
              clear hnl2 hm0 hin
              gi_wp2
              exact ⟨KeepsOthers.setCell _ _ _, HX.out⟩
        · have d0 : decide ((0 : Int) < (m : Int)) = false := decide_eq_false (by omega)
          have d0' : decide (0 < m) = false := decide_eq_false hm0
          by_cases hin : n ∈ ns
          · rw [decide_eq_true hin] at kl
            clear hm0 hin
            gi_wp2
            exact HFin.out _ rfl
          · rw [decide_eq_false hin] at kl
            have HX := Lib.hid (show ¬ pre ++ [x] <+: ns.zip (List.replicate ns.length sA) from fun h => hin (HOK.out h).1)
            clear hm0 hin
            gi_wp2
            exact ⟨KeepsOthers.setCell _ _ _, HX.out⟩
      case stop =>
        rintro D c pre W _ hpre h _
        exact absurd hpre h
      case done =>
        rintro D ys W hD rfl hI hK
        have hyl : (ns.zip (List.replicate ns.length sA)).length = ns.length := by simp
        rw [hyl] at hI
        obtain ⟨c0, c1, c2, c3⟩ := hI.cells
        obtain ⟨f0, f1, f3⟩ := hI.fz
        have kl := fun ty => hI.pn.mp.len ty
        have hee : ((ns.length : Int) == (ns.length : Int)) = true := by simp
        have HI := Lib.hid hI
        clear hI c0 hR
        go_wp2
        have hk2 := (KeepsOthers.setCell W ⟨w.heap.size, 0, none⟩ (.bool true)).same D _ hK rfl
        have hres : (W.setCell ⟨w.heap.size, 0, none⟩ (.bool true)).heap[w.heap.size]? = some (.cells #[.bool true] 4 (0, 0)) := by
          simp [World.setCell, Array.getElem?_modify, HI.out.pn.res]
        have hwz := HBW.out.size
        refine ⟨by simp, .inl ⟨_, _, rfl, run_takeDeferred hk2, ?_⟩⟩
        have hres2 : ((W.setCell ⟨w.heap.size, 0, none⟩ (.bool true)).putObj D (.deferred none)).heap[w.heap.size]? = some (.cells #[.bool true] 4 (0, 0)) := by
          rw [World.putObj_heap_other (by omega)]; exact hres
        have hcq : ((W.setCell ⟨w.heap.size, 0, none⟩ (.bool true)).putObj D (.deferred none)).cell? ⟨w.heap.size, 0, none⟩ = some (.bool true) := by rw [cell_of_row _ _ _ _ _ _ hres2]; rfl
        refine ⟨.bool true, ?_, rfl, ?_⟩
        · simp [results, Tryd.f4, go_sem, hcq]
        · have hBF := HI.out.pn.bw.setCell (p := ⟨w.heap.size, 0, none⟩) (Nat.le_refl _) (.bool true)
          exact hBF.grown (grownBy_putObj' _ D _) hBF.size (fun r e => by cases e; omega)

set_option maxHeartbeats 400000 in
theorem pathNumbers_long (zs : List Int) (A : Option Addr) (cap : Nat) (w : World) (hm : MX w) (hl : 60 < zs.length) :
    Calls Tryd.prog 4 #[.slice A zs.length cap] w fun e w' => e = .returned (.bool true) ∧ Below w.heap.size w w' := by
  refine (callsIn_wide (n := 9)).1 ?_
  refine callsIn_of_wp_marks Tryd.func4 rfl trivial ?_ rfl
  simp only [Tryd.ntmps4, List.size_toArray, List.length_cons, List.length_nil, Nat.reduceAdd, Nat.reduceSub, Array.replicate_succ, Array.replicate_zero, List.push_toArray, List.append_toArray, List.nil_append, List.cons_append]
  have hd0 : decide ((60 : Int) < (zs.length : Int)) = true := decide_eq_true (by omega)
  have KH := Lib.hid (head6_any (w.alloc (.cells #[.bool false] 4)) (hm.below ((Below.refl _ _).alloc (Nat.le_refl _) _)))
  refine wpIn_wide.2 ?_
  go_wp2_with fail
  refine KH.out.mono ?_
  rintro e w1 ⟨rfl, hb1⟩
  have hres : w1.heap[w.heap.size]? = some (.cells #[.bool false] 4 (0, 0)) := (hb1.block _ (by simp)).trans (heap_alloc_new w _)
  have cq : w1.cell? ⟨w.heap.size, 0, none⟩ = some (.bool false) := by rw [cell_of_row _ _ _ _ _ _ hres]; rfl
  have fq : w1.frozen? ⟨w.heap.size, 0, none⟩ = false := by simp [World.frozen?, hres]
  go_wp2
  have hB1 : Below w.heap.size w w1 := ((Below.refl _ w).alloc (Nat.le_refl _) _).trans (hb1.mono (by simp))
  have hres2 : (w1.setCell ⟨w.heap.size, 0, none⟩ (.bool true)).heap[w.heap.size]? = some (.cells #[.bool true] 4 (0, 0)) := by
    simp [World.setCell, Array.getElem?_modify, hres]
  have hcq : (w1.setCell ⟨w.heap.size, 0, none⟩ (.bool true)).cell? ⟨w.heap.size, 0, none⟩ = some (.bool true) := by rw [cell_of_row _ _ _ _ _ _ hres2]; rfl
  refine ⟨.bool true, ?_, rfl, hB1.setCell (p := ⟨w.heap.size, 0, none⟩) (Nat.le_refl _) _⟩
  simp [results, Tryd.f4, go_sem, hcq]

end Go.Proofs.YtanbbomdidefjaaDoor
