/- The walk, where no round of the caller's leaves: each round knows what was shown so far. -/
import Derived.Test.YtodlcfhkiilpgaaZF
import Derived.Test.YtodlcfhkiilpgaaZN
import Derived.RangeFuncCalls
namespace Go.Proofs.Ytodlcfhkiilpgaa
open Go.RowKit Go.Shelf Go.Lib
attribute [local go_sem] Oper.semAt_some

/-- the iterator's promise, where no round leaves -/
def SeqT {α : Type} (n : Nat) (P : Program) (g : Nat) (lb : Array Value) (encs : α → Array Value) (c : Nat) (Kp : Nat → World → World → Prop) (O : List α) (w : World) : Prop :=
  ∀ (l : Nat) (J : List α → World → Prop) (W : World), Below w.heap.size w W → AbidesE W.heap.size c J →
    (∀ pre x W1, J pre W1 → (pre ++ [x]) <+: O → W.heap.size + c ≤ W1.heap.size → YieldAt Fence.wide (n - 1) P l (encs x) W1 fun e W' =>
      e = .returned (.bool true) ∧ J (pre ++ [x]) W' ∧ Kp W.heap.size W1 W') →
    J [] W →
    CallsIn Fence.wide n P g (#[.func (.yield l) #[] #[]] ++ lb) W fun e W' => (∃ v, e = .returned v) ∧ J O W'
section
variable {Bd Bn base D : Nat} {v : Value} {qk : Bool} {ns : List Nd} {E : Nat}
set_option maxHeartbeats 4000000 in
theorem visit_t (nn : Nat) (hn : 1 ≤ nn) (l : Nat) (O : List (Int × Nat)) (J : List (Int × Nat) → World → Prop) (hJ : AbidesE E 3 J)
    (hY : ∀ pre x W1, J pre W1 → (pre ++ [x]) <+: O → E + 3 ≤ W1.heap.size → YieldAt Fence.wide (nn - 1) Try.prog l (encW x) W1 fun e W' =>
      e = .returned (.bool true) ∧ J (pre ++ [x]) W' ∧ KpW Bd base D v qk ns E W1 W') :
    ∀ (left : Nat) (n : Int) (d : Nat) (pre o : List (Int × Nat)) (lf : Nat) (b : Bool) (W : World), Vis ns left (kdN ns (srcN ns n)) d o lf b → VM Bd base D v qk ns E l left W → J pre W → pre ++ o <+: O → left ≤ 1000000 → d + left ≤ 2000000 →
      CallsIn Fence.wide nn Try.prog 50 #[.int .i64 n, .int .i64 d, .pointer (some ⟨Bd, 0, none⟩), .pointer (some ⟨E + 1, 0, none⟩), .pointer (some ⟨E, 0, none⟩), .pointer (some ⟨E + 2, 0, none⟩)] W fun e W' =>
        e = .returned (.bool b) ∧ J (pre ++ o) W' ∧ (b = true → VM Bd base D v qk ns E l lf W') := by
  intro left
  induction left using Nat.strongRecOn with
  | _ left ih =>
    intro n d pre o lf b W hvis hvm hj hpl hl6 hd6
    have IH := Lib.hid ih
    have HY := Lib.hid hY
    have HJA := Lib.hid hJ
    have HVIS := Lib.hid hvis
    have HVM := Lib.hid hvm
    have HJ0 := Lib.hid hj
    have KS := shown_any n W hvm.src.doc
    obtain ⟨A, c, e1, hle, hmx, _, _, _⟩ := kids_form (srcN ns n) hvm.src.doc
    rw [e1] at KS
    have HKS := Lib.hid KS
    have HE1 := Lib.hid e1
    obtain ⟨cd, _, _, _, _, _⟩ := hvm.cells
    obtain ⟨K, hK⟩ : ∃ K, kdN ns (srcN ns n) = K := ⟨_, rfl⟩
    rw [hK] at HKS HVIS HE1 hle
    have HK := Lib.hid hK
    unfold maxLen at hmx
    clear ih hY hJ hvis hvm hj KS e1 hK
    refine callsIn_of_wp Try.func50 rfl trivial ?_ rfl
    simp only [Try.ntmps50, List.size_toArray, List.length_cons, List.length_nil, Nat.reduceAdd, Nat.reduceSub, Array.replicate_succ, Array.replicate_zero, List.push_toArray, List.append_toArray, List.nil_append, List.cons_append]
    gi_wp2_with (refine ⟨trivial, ?_⟩; gi_at_call 51; refine (callsIn_wide.2 HKS.out).mono ?_; rintro e w1 ⟨rfl, rfl⟩)
    gi_loopw [15] (fun iv wr => ∃ (i m : Nat) (o1 o2 : List (Int × Nat)), iv = .int .i64 i ∧ i ≤ K.length ∧ Hid (Vis ns m (K.drop i) d o2 lf b) ∧ Hid (o = o1 ++ o2) ∧ Hid (VM Bd base D v qk ns E l m wr) ∧ Hid (J (pre ++ o1) wr) ∧ Hid (o1.length + m ≤ left)) (fun iv _ => K.length - (intOf iv).toNat)
    case atStart => exact ⟨0, left, [], o, rfl, Nat.zero_le _, HVIS, Lib.hid rfl, HVM, Lib.hid (by rw [List.append_nil]; exact HJ0.out), Lib.hid (by simp)⟩
    case round =>
      obtain ⟨i, m, o1, o2, rfl, hi, HV, HO, HM, HJ, HLE⟩ := hrel
      by_cases hlt : i < K.length
      · obtain ⟨k, hk⟩ : ∃ k, K[i]? = some k := ⟨_, List.getElem?_eq_getElem hlt⟩
        have hdr : K.drop i = k :: K.drop (i + 1) := by
          rw [List.drop_eq_getElem_cons hlt]
          rw [List.getElem?_eq_getElem hlt] at hk
          injection hk with hk
          rw [hk]
        have hv := HV.out
        rw [hdr] at hv
        obtain ⟨rest, hrest⟩ : ∃ rest, K.drop (i + 1) = rest := ⟨_, rfl⟩
        rw [hrest] at hv
        have HRS := Lib.hid hrest
        obtain ⟨A', c', e2, _, _, _, hr, _⟩ := kids_form (srcN ns n) HM.out.src.doc
        rw [HE1.out, HK.out] at e2
        rw [HK.out] at hr
        injection e2 with e2 e3 e4
        subst e2
        obtain ⟨bb, off, rfl, hbb, hcell⟩ := hr.pos (by omega)
        have ck := hcell i hlt
        rw [hk] at ck
        have ck : wr.cell? ⟨bb, off + i, none⟩ = some (.int .i64 k) := ck
        have KH := has_any k wr HM.out.src.doc
        obtain ⟨c0, cy, cl, fl, cv, hE3⟩ := HM.out.cells
        have HW := Lib.hid (HM.out.below (below_drewN (Below.refl _ wr) 1))
        clear hr hcell hdr hk e3 e4 hrest HV
        cases hv with
        | skip h1 h2 =>
          rw [h1] at KH
          have HKH := Lib.hid KH
          have H2 := Lib.hid h2
          clear KH h1 h2
          gi_wp2_with (refine ⟨trivial, ?_⟩; gi_at_call 35; refine (callsIn_wide.2 HKH.out).mono ?_; rintro e w2 ⟨rfl, rfl⟩)
          go_roundw
          case rel => exact ⟨i + 1, m, o1, o2, by go_num, by omega, Lib.hid (by rw [HRS.out]; exact H2.out), HO, HM, HJ, HLE⟩
          case measure => simp [intOf]; omega
        | out h1 =>
          rw [h1] at KH
          have HKH := Lib.hid KH
          have HF : Hid (J (pre ++ o) (wr.setCell ⟨E + 1, 0, none⟩ (.int .i64 (-1)))) := Lib.hid (by
            rw [HO.out, List.append_nil]
            exact HJA.out _ _ _ (some (E + 1)) HJ.out (grown_setCellM wr ⟨E + 1, 0, none⟩ _) (fun r e => by cases e; omega))
          clear KH h1
          gi_wp2_with (refine ⟨trivial, ?_⟩; gi_at_call 35; refine (callsIn_wide.2 HKH.out).mono ?_; rintro e w2 ⟨rfl, rfl⟩)
          refine ⟨fun _ e => (by cases e), ?_⟩
          gi_wp2
          go_ret
          exact ⟨rfl, HF.out, fun e => by cases e⟩
        | @stop m2 _ _ _ o3 _ h1 h2 =>
          rw [h1] at KH
          have HKH := Lib.hid KH
          have HM2 := Lib.hid (HM.out.less (left' := m2))
          have HJ2 : Hid (J (pre ++ o1) (wr.setCell ⟨E + 1, 0, none⟩ (.int .i64 m2))) := Lib.hid (HJA.out _ _ _ (some (E + 1)) HJ.out (grown_setCellM wr ⟨E + 1, 0, none⟩ _) (fun r e => by cases e; omega))
          have H2 := Lib.hid h2
          have hlen : o1.length + (m2 + 1) ≤ left := HLE.out
          obtain ⟨fn, tmps, assign, body, hy, hR⟩ := HY.out (pre ++ o1) (k, d) _ HJ2.out (by have h := hpl; rw [HO.out] at h; exact List.IsPrefix.trans (by simp [List.prefix_append_right_inj]) h) (by simpa [World.setCell] using hE3)
          simp only [encW] at hy
          obtain ⟨c02, cy2, cl2, _, _, _⟩ := HM2.out.cells
          have d0 : decide ((m2 : Int) < 0) = false := decide_eq_false (by omega)
          have hsub : ((m2 : Int) + 1) - 1 = (m2 : Int) := by omega
          clear KH h1 h2 HJ
          gi_wp2_with (refine ⟨trivial, ?_⟩; gi_at_call 35; refine (callsIn_wide.2 HKH.out).mono ?_; rintro e w2 ⟨rfl, rfl⟩)
          refine hR.mono ?_
          rintro e W3 ⟨rfl, hj3, hk3⟩
          · have HM3 := Lib.hid (HM2.out.round hk3)
            obtain ⟨c03, cy3, cl3, _, cv3, hE33⟩ := HM3.out.cells
            have IHr := IH.out m2 (by omega) k (d + 1) (pre ++ o1 ++ [(k, d)]) o3 _ _ W3 H2.out HM3.out hj3 (by have h := hpl; rw [HO.out] at h; exact List.IsPrefix.trans (by simp) h) (by omega) (by omega)
            have IHr : CallsIn Fence.wide nn Try.prog 50 #[.int .i64 k, .int .i64 ((d : Int) + 1), .pointer (some ⟨Bd, 0, none⟩), .pointer (some ⟨E + 1, 0, none⟩), .pointer (some ⟨E, 0, none⟩), .pointer (some ⟨E + 2, 0, none⟩)] W3 _ := IHr
            have HIH := Lib.hid IHr
            clear IHr hj3 hk3 hy hR
            gi_wp2_with (refine ⟨trivial, ?_⟩; gi_at_call 50; refine (callsIn_wide.2 (callsIn_wide.1 HIH.out)).mono ?_; rintro e W4 ⟨rfl, h4⟩; have H4 := Lib.hid h4; clear h4)
            go_ret
            refine ⟨rfl, ?_, fun e => by cases e⟩
            rw [HO.out]
            have hj4 := H4.out.1
            simpa using hj4
        | @go m2 _ _ _ o3 l3 o4 _ _ h1 h2 h3 =>
          rw [h1] at KH
          have HKH := Lib.hid KH
          have HM2 := Lib.hid (HM.out.less (left' := m2))
          have HJ2 : Hid (J (pre ++ o1) (wr.setCell ⟨E + 1, 0, none⟩ (.int .i64 m2))) := Lib.hid (HJA.out _ _ _ (some (E + 1)) HJ.out (grown_setCellM wr ⟨E + 1, 0, none⟩ _) (fun r e => by cases e; omega))
          have H2 := Lib.hid h2
          have H3 := Lib.hid h3
          have hlen : o1.length + (m2 + 1) ≤ left := HLE.out
          obtain ⟨fn, tmps, assign, body, hy, hR⟩ := HY.out (pre ++ o1) (k, d) _ HJ2.out (by have h := hpl; rw [HO.out] at h; exact List.IsPrefix.trans (by simp [List.prefix_append_right_inj]) h) (by simpa [World.setCell] using hE3)
          simp only [encW] at hy
          obtain ⟨c02, cy2, cl2, _, _, _⟩ := HM2.out.cells
          have d0 : decide ((m2 : Int) < 0) = false := decide_eq_false (by omega)
          have hsub : ((m2 : Int) + 1) - 1 = (m2 : Int) := by omega
          clear KH h1 h2 h3 HJ
          gi_wp2_with (refine ⟨trivial, ?_⟩; gi_at_call 35; refine (callsIn_wide.2 HKH.out).mono ?_; rintro e w2 ⟨rfl, rfl⟩)
          refine hR.mono ?_
          rintro e W3 ⟨rfl, hj3, hk3⟩
          · have HM3 := Lib.hid (HM2.out.round hk3)
            obtain ⟨c03, cy3, cl3, _, cv3, hE33⟩ := HM3.out.cells
            have IHr := IH.out m2 (by omega) k (d + 1) (pre ++ o1 ++ [(k, d)]) o3 _ _ W3 H2.out HM3.out hj3 (by have h := hpl; rw [HO.out] at h; exact List.IsPrefix.trans (by simp [List.prefix_append_right_inj]) h) (by omega) (by omega)
            have IHr : CallsIn Fence.wide nn Try.prog 50 #[.int .i64 k, .int .i64 ((d : Int) + 1), .pointer (some ⟨Bd, 0, none⟩), .pointer (some ⟨E + 1, 0, none⟩), .pointer (some ⟨E, 0, none⟩), .pointer (some ⟨E + 2, 0, none⟩)] W3 _ := IHr
            have HIH := Lib.hid IHr
            clear IHr hj3 hk3 hy hR
            gi_wp2_with (refine ⟨trivial, ?_⟩; gi_at_call 50; refine (callsIn_wide.2 (callsIn_wide.1 HIH.out)).mono ?_; rintro e W4 ⟨rfl, h4⟩; have H4 := Lib.hid h4; clear h4)
            · have hr4 : J (pre ++ o1 ++ [(k, d)] ++ o3) W4 ∧ VM Bd base D v qk ns E l l3 W4 := ⟨H4.out.1, H4.out.2 trivial⟩
              have hle3 := H2.out.le
              go_roundw
              case rel => exact ⟨i + 1, l3, o1 ++ (k, d) :: o3, o4, by go_num, by omega, Lib.hid (by rw [HRS.out]; exact H3.out), Lib.hid (by rw [HO.out]; simp), Lib.hid hr4.2, Lib.hid (by simpa using hr4.1), Lib.hid (by simp; omega)⟩
              case measure => simp [intOf]; omega
      · obtain rfl : i = K.length := by omega
        have hv := HV.out
        rw [List.drop_length] at hv
        cases hv with
        | nil =>
          have HF : Hid (J (pre ++ o) wr ∧ VM Bd base D v qk ns E l lf wr) := Lib.hid ⟨by have := HJ.out; rw [HO.out, List.append_nil]; exact this, HM.out⟩
          gi_wp2
          go_ret
          exact ⟨rfl, HF.out.1, HF.out.2⟩
theorem iterW_t (nn : Nat) (hn : 1 ≤ nn) (n : Int) (o : List (Int × Nat)) (lf : Nat) (b : Bool) (hvis : Vis ns ns.length (kdN ns (srcN ns n)) 1 o lf b) (hl : ns.length ≤ 1000000) (w : World) (hs : SrcD Bd base D v qk ns w) (hbn : w.heap[Bn]? = some (.cells #[.int .i64 n] 3 (0, 0))) :
    SeqT nn Try.prog 48 #[.pointer (some ⟨Bd, 0, none⟩), .pointer (some ⟨Bn, 0, none⟩)] encW 3 (fun E => KpW Bd base D v qk ns E) o w := by
  intro l J W hW hJ hY h0
  obtain ⟨E, hE⟩ : ∃ E, W.heap.size = E := ⟨_, rfl⟩
  rw [hE] at hJ hY
  have hsW : SrcD Bd base D v qk ns W := hs.keep (S := fun _ => False) (Frm.below hW) (fun e => e) (fun _ _ e => e)
  have hnW : W.heap[Bn]? = some (.cells #[.int .i64 n] 3 (0, 0)) := (hW.block Bn (Array.getElem?_eq_some_iff.1 hbn).1).trans hbn
  have hBd : Bd < E := by rw [← hE]; exact (Array.getElem?_eq_some_iff.1 hsW.bd).1
  have hBn : Bn < E := by rw [← hE]; exact (Array.getElem?_eq_some_iff.1 hnW).1
  have hba : Below W.heap.size W (W.alloc (.cells #[.func (.yield l) #[] #[]] 75)) := (Below.refl _ W).alloc (Nat.le_refl _) _
  have KZ := Lib.hid (size_any _ (hsW.doc.below hba))
  have cda : (W.alloc (.cells #[.func (.yield l) #[] #[]] 75)).cell? ⟨Bd, 0, none⟩ = some (.pointer (some ⟨D, 0, none⟩)) := by rw [cell_of_row _ _ _ _ _ _ ((hba.block Bd (by omega)).trans hsW.bd)]; rfl
  obtain ⟨WB, hWB⟩ : ∃ WB, ((W.alloc (.cells #[.func (.yield l) #[] #[]] 75)).alloc (.cells #[.int .i64 ns.length] 3)).alloc (.cells #[.nilFunc] 75) = WB := ⟨_, rfl⟩
  have hbB : Below W.heap.size W WB := by rw [← hWB]; exact (hba.alloc hba.size _).alloc (by simp; omega) _
  have b0 : WB.heap[E]? = some (.cells #[.func (.yield l) #[] #[]] 75 (0, 0)) := by
    rw [← hWB, Below.heap_alloc _ _ _ (by simp; omega), Below.heap_alloc _ _ _ (by simp; omega), ← hE]
    exact heap_alloc_new W _
  have b1 : WB.heap[E + 1]? = some (.cells #[.int .i64 ns.length] 3 (0, 0)) := by
    rw [← hWB, Below.heap_alloc _ _ _ (by simp; omega), ← hE]
    have := heap_alloc_new (W.alloc (.cells #[.func (.yield l) #[] #[]] 75)) (.cells #[.int .i64 ns.length] 3)
    simpa using this
  have b2 : WB.heap[E + 1 + 1]? = some (.cells #[.nilFunc] 75 (0, 0)) := by
    rw [← hWB, ← hE]
    have := heap_alloc_new ((W.alloc (.cells #[.func (.yield l) #[] #[]] 75)).alloc (.cells #[.int .i64 ns.length] 3)) (.cells #[.nilFunc] 75)
    simpa using this
  have cF : WB.cell? ⟨E + 1 + 1, 0, none⟩ = some .nilFunc := by rw [cell_of_row _ _ _ _ _ _ b2]; rfl
  have fF : WB.frozen? ⟨E + 1 + 1, 0, none⟩ = false := by simp [World.frozen?, b2]
  obtain ⟨W4, hW4⟩ : ∃ W4, WB.setCell ⟨E + 1 + 1, 0, none⟩ (.func (.func 50) #[] #[.pointer (some ⟨Bd, 0, none⟩), .pointer (some ⟨E + 1, 0, none⟩), .pointer (some ⟨E, 0, none⟩), .pointer (some ⟨E + 1 + 1, 0, none⟩)]) = W4 := ⟨_, rfl⟩
  have hF4 : Frm (fun k => k = E + 1 + 1) WB W4 := by rw [← hW4]; exact Frm.set _ rfl
  have hzB : WB.heap.size = E + 3 := by rw [← hWB]; simp; omega
  have hvm : VM Bd base D v qk ns E l ns.length W4 := by
    refine ⟨(hsW.keep (S := fun _ => False) (Frm.below hbB) (fun e => e) (fun _ _ e => e)).keep hF4 (by omega) (fun k hk e => by have := (hsW.doc.in_ k hk).2; omega), (hF4.block E (by omega) (by omega)).trans b0, (hF4.block (E + 1) (by omega) (by omega)).trans b1, ?_, hBd, fun k hk => by have := (hsW.doc.in_ k hk).2; omega⟩
    rw [← hW4]
    exact heap_setCell_same _ _ 0 _ _ _ b2
  have hj4 : J [] W4 := by
    have h1 : J [] WB := hJ _ _ _ none h0 ⟨hbB.os, hbB.tape, hbB.output, hbB.size, fun k hk _ => hbB.block k hk⟩ (fun _ e => by cases e)
    refine hJ _ _ _ (some (E + 1 + 1)) h1 ?_ (fun r e => by cases e; omega)
    rw [← hW4]
    exact grown_setCellM WB ⟨E + 1 + 1, 0, none⟩ _
  have hn4 : W4.cell? ⟨Bn, 0, none⟩ = some (.int .i64 n) := by rw [cell_of_row _ _ _ _ _ _ ((hF4.block Bn (by omega) (by omega)).trans ((hbB.block Bn (by omega)).trans hnW))]; rfl
  have cv4 : W4.cell? ⟨E + 1 + 1, 0, none⟩ = some (.func (.func 50) #[] #[.pointer (some ⟨Bd, 0, none⟩), .pointer (some ⟨E + 1, 0, none⟩), .pointer (some ⟨E, 0, none⟩), .pointer (some ⟨E + 1 + 1, 0, none⟩)]) := (hvm.cells).2.2.2.2.1
  have HV := visit_t nn hn l o J hJ hY ns.length n 1 [] o lf b W4 hvis hvm hj4 (by simp) hl (by omega)
  simp only [List.nil_append] at HV
  have HV : CallsIn Fence.wide nn Try.prog 50 #[.int .i64 n, .int .i64 1, .pointer (some ⟨Bd, 0, none⟩), .pointer (some ⟨E + 1, 0, none⟩), .pointer (some ⟨E, 0, none⟩), .pointer (some ⟨E + 1 + 1, 0, none⟩)] W4 _ := HV
  have HV := Lib.hid HV
  clear hvis hs hbn hsW hnW hY hJ h0 hba hbB b0 b1 b2 hF4 hvm hj4
  refine callsIn_of_wp Try.func48 rfl trivial ?_ rfl
  simp only [Try.ntmps48, List.size_toArray, List.length_cons, List.length_nil, Nat.reduceAdd, Nat.reduceSub, Array.replicate_succ, Array.replicate_zero, List.push_toArray, List.append_toArray, List.nil_append, List.cons_append]
  gi_wp2_with (first | (refine ⟨trivial, ?_⟩; gi_at_call 49; refine (callsIn_wide.2 KZ.out).mono ?_; rintro e w2 ⟨rfl, rfl⟩) | (refine ⟨trivial, ?_⟩; gi_at_call 50; refine (callsIn_wide.2 (callsIn_wide.1 HV.out)).mono ?_; rintro e W5 ⟨rfl, h5⟩; have H5 := Lib.hid h5; clear h5))
  go_end0
  refine ⟨⟨_, rfl⟩, ?_⟩
  exact H5.out.1
end
end Go.Proofs.Ytodlcfhkiilpgaa
