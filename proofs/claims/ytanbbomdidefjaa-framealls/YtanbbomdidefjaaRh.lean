/- The law FrameAlls, walked. -/
import Derived.Test.YtanbbomdidefjaaRg
import Derived.Test.YtanbbomdidefjaaPo
import Derived.Test.YtanbbomdidefjaaRq
import Derived.BigQuiet
namespace Go.Proofs.Ytanbbomdidefjaa
open Go.RowKit Go.Shelf
attribute [local go_sem] Oper.semAt_some

theorem and3 (x : Int) : 0 ≤ bits .and .i64 x 7 ∧ bits .and .i64 x 7 ≤ 7 := by
  have h1 : (BitVec.ofInt 64 x &&& BitVec.ofInt 64 7).toNat ≤ 7 := by
    rw [BitVec.toNat_and]
    exact Nat.le_trans Nat.and_le_right (by decide)
  have h2 : bits .and .i64 x 7 = IntKind.i64.wrap ((BitVec.ofInt 64 x &&& BitVec.ofInt 64 7).toNat : Int) := rfl
  rw [h2]
  generalize (BitVec.ofInt 64 x &&& BitVec.ofInt 64 7).toNat = y at h1
  simp [IntKind.wrap, IntKind.bits, IntKind.signed]
  omega
theorem infoInt : (Try.prog.info? 3).map (fun i => (i.zero, i.size, i.bytes)) = some (some (.int .i64 0), 1, 8) := by kernel_rfl

set_option maxRecDepth 100000 in
set_option maxHeartbeats 4000000 in
theorem frameAlls_short (rs : List El) (A : Option Addr) (cap : Nat) (cut0 stop0 : Int) (w : World) (hr : RdL w A rs) (hl : rs.length ≤ 10) :
    Calls Try.prog 3 #[.slice A rs.length cap, .int .i64 cut0, .int .i64 stop0] w fun e w' => e = .returned (.bool true) ∧ Below w.heap.size w w' := by
  refine (callsIn_wide (n := 9)).1 ?_
  refine callsIn_of_wp_marks Try.func3 rfl trivial ?_ rfl
  simp only [Try.ntmps3, List.size_toArray, List.length_cons, List.length_nil, Nat.reduceAdd, Nat.reduceSub, Array.replicate_succ, Array.replicate_zero, List.push_toArray, List.append_toArray, List.nil_append, List.cons_append]
  have hd0 : decide ((10 : Int) < (rs.length : Int)) = false := decide_eq_false (by omega)
  obtain ⟨i0, hi, hz0, hz1, hz2⟩ := info_parts infoU8
  obtain ⟨i1, hi', hy0, hy1, hy2⟩ := info_parts infoInt
  obtain ⟨W0, hW0⟩ : ∃ W0, (((w.alloc (.cells #[.slice A rs.length cap] 22)).alloc (.cells #[.int .i64 cut0] 3)).alloc (.cells #[.int .i64 stop0] 3)).alloc (.cells #[.bool false] 4) = W0 := ⟨_, rfl⟩
  have hs0 : W0.heap.size = w.heap.size + 4 := by rw [← hW0]; simp
  have hB0 : Below w.heap.size w W0 := by rw [← hW0]; exact ((((Below.refl _ w).alloc (Nat.le_refl _) _).alloc (by simp) _).alloc (by simp; omega) _).alloc (by simp; omega) _
  have b0 : W0.heap[w.heap.size]? = some (.cells #[.slice A rs.length cap] 22 (0, 0)) := by
    rw [← hW0, Below.heap_alloc _ _ _ (by simp; omega), Below.heap_alloc _ _ _ (by simp; omega), Below.heap_alloc _ _ _ (by simp)]
    exact heap_alloc_new w _
  have b1 : W0.heap[w.heap.size + 1]? = some (.cells #[.int .i64 cut0] 3 (0, 0)) := by
    rw [← hW0, Below.heap_alloc _ _ _ (by simp), Below.heap_alloc _ _ _ (by simp)]
    have := heap_alloc_new (w.alloc (.cells #[.slice A rs.length cap] 22)) (.cells #[.int .i64 cut0] 3)
    simpa using this
  have b2 : W0.heap[w.heap.size + 2]? = some (.cells #[.int .i64 stop0] 3 (0, 0)) := by
    rw [← hW0, Below.heap_alloc _ _ _ (by simp)]
    have := heap_alloc_new ((w.alloc (.cells #[.slice A rs.length cap] 22)).alloc (.cells #[.int .i64 cut0] 3)) (.cells #[.int .i64 stop0] 3)
    simpa using this
  have b3 : W0.heap[w.heap.size + 3]? = some (.cells #[.bool false] 4 (0, 0)) := by
    rw [← hW0]
    have := heap_alloc_new (((w.alloc (.cells #[.slice A rs.length cap] 22)).alloc (.cells #[.int .i64 cut0] 3)).alloc (.cells #[.int .i64 stop0] 3)) (.cells #[.bool false] 4)
    simpa using this
  have KH := Lib.hid (head5_any W0)
  refine wpIn_wide.2 ?_
  go_wp2_with fail
  refine KH.out.mono ?_
  rintro e w1 ⟨rfl, hb1⟩
  have hB1 : Below w.heap.size w w1 := hB0.trans (hb1.mono (by omega))
  have d0 := (hb1.block _ (by omega)).trans b0
  have d1 := (hb1.block _ (by omega)).trans b1
  have d2 := (hb1.block _ (by omega)).trans b2
  have d3 := (hb1.block _ (by omega)).trans b3
  have hT4 : w.heap.size + 4 ≤ w1.heap.size := by have := hb1.size; omega
  have l0 : w1.cell? ⟨w.heap.size, 0, none⟩ = some (.slice A rs.length cap) := by rw [cell_of_row _ _ _ _ _ _ d0]; rfl
  have hF0 : Fb w A cap rs.length w1.heap.size (.slice (some ⟨w1.heap.size, 0, none⟩) 0 0) (.slice (some ⟨w1.heap.size + 1, 0, none⟩) 0 0) cut0 stop0 [] (((w1.alloc (.cells #[] 5)).alloc (.cells #[] 3)).alloc (.cells #[.slice (some ⟨w1.heap.size + 1, 0, none⟩) 0 0] 25)) := by
    have hs := hB1.size
    refine ⟨?_, ?_, ?_, ?_, ?_, ?_, ?_, ?_, hT4⟩
    · rw [Below.heap_alloc _ _ _ (by simp; omega), Below.heap_alloc _ _ _ (by simp; omega), Below.heap_alloc _ _ _ (by omega)]; exact d0
    · rw [Below.heap_alloc _ _ _ (by simp; omega), Below.heap_alloc _ _ _ (by simp; omega), Below.heap_alloc _ _ _ (by omega)]; exact d1
    · rw [Below.heap_alloc _ _ _ (by simp; omega), Below.heap_alloc _ _ _ (by simp; omega), Below.heap_alloc _ _ _ (by omega)]; exact d2
    · rw [Below.heap_alloc _ _ _ (by simp; omega), Below.heap_alloc _ _ _ (by simp; omega), Below.heap_alloc _ _ _ (by omega)]; exact d3
    · have := heap_alloc_new ((w1.alloc (.cells #[] 5)).alloc (.cells #[] 3)) (.cells #[.slice (some ⟨w1.heap.size + 1, 0, none⟩) 0 0] 25)
      simpa using this
    · have := (((World.ownsRow_made (base := w1.heap.size) (e := 5) (size := 1) w1 #[] 0 (Nat.le_refl _) (Nat.zero_le _) (by simp)).alloc (.cells #[] 3)).alloc (.cells #[.slice (some ⟨w1.heap.size + 1, 0, none⟩) 0 0] 25))
      exact this
    · have := ((World.ownsRow_made (base := w1.heap.size) (e := 3) (size := 1) (w1.alloc (.cells #[] 5)) #[] 0 (by simp) (Nat.zero_le _) (by simp)).alloc (.cells #[.slice (some ⟨w1.heap.size + 1, 0, none⟩) 0 0] 25))
      rw [World.size_alloc] at this
      exact this
    · exact ((hB1.alloc hs _).alloc (by simp; omega) _).alloc (by simp; omega) _
  have n1 : ¬ w.heap.size = w1.heap.size := by omega
  have n2 : ¬ w.heap.size = w1.heap.size + 1 := by omega
  have n3 : ¬ w.heap.size = w1.heap.size + 1 + 1 := by omega
  have m1 : ¬ w1.heap.size = w.heap.size := by omega
  have m2 : ¬ w1.heap.size + 1 = w.heap.size := by omega
  have m3 : ¬ w1.heap.size + 1 + 1 = w.heap.size := by omega
  have lz := hF0.cells.1
  have HF0 := Lib.hid hF0
  have HR := Lib.hid hr
  have HT4 := Lib.hid hT4
  clear hF0 hr hT4 d0 d1 d2 d3 b0 b1 b2 b3 hW0 hs0 hB0 hB1 hb1 KH
  go_wp2
  obtain ⟨T, hT⟩ : ∃ T, w1.heap.size = T := ⟨_, rfl⟩
  obtain ⟨W0, hW0⟩ : ∃ W0, ((w1.alloc (.cells #[] 5)).alloc (.cells #[] 3)).alloc (.cells #[.slice (some ⟨w1.heap.size + 1, 0, none⟩) 0 0] 25) = W0 := ⟨_, rfl⟩
  rw [hW0] at HF0 ⊢
  rw [hT] at HF0 HT4 ⊢
  clear hW0 hT n1 n2 n3 m1 m2 m3 l0 lz w1
  go_loopw [27, 7] (fun iv bv wr => ∃ (i : Nat) (ve : Value), i ≤ rs.length ∧ iv = .int .i64 i ∧ Hid (Fb w A cap rs.length T bv ve cut0 stop0 ((dsOf rs).take i) wr) ∧ Hid (∀ d ∈ (dsOf rs).take i, d.length ≤ 200) ∧ Hid (bv = .slice none 0 0 → False)) (fun iv _ _ => rs.length - (intOf iv).toNat)
  case atStart => exact ⟨0, _, Nat.zero_le _, rfl, HF0, Lib.hid (fun d hd => by simp at hd), Lib.hid (fun e => by cases e)⟩
  case round =>
    obtain ⟨i, ve, hi9, rfl, HF, HD, HNV⟩ := hrel
    obtain ⟨lb, _, _, rb, eb⟩ := HF.out.cells
    obtain ⟨_, _, rf, ef⟩ := HF.out.fz
    by_cases hlt : i < rs.length
    · obtain ⟨r, hri⟩ : ∃ r, rs[i]? = some r := ⟨_, List.getElem?_eq_getElem hlt⟩
      obtain ⟨b, off, hA, hbl, hce, hok⟩ := HR.out.at_ hri
      have hcel : wr.cell? ⟨b, off + i, none⟩ = some (.slice r.A r.d.length r.c) := (HF.out.bw.cell (p := ⟨b, off + i, none⟩) hbl).trans hce
      have HTK := Lib.hid (show (dsOf rs).take (i + 1) = (dsOf rs).take i ++ [r.d] by rw [List.take_add_one, List.getElem?_map, hri]; rfl)
      have HOK := Lib.hid hok
      subst hA
      clear hce hok hri
      by_cases hlong : 200 < r.d.length
      · have hd1 : decide ((200 : Int) < (r.d.length : Int)) = true := decide_eq_true (by omega)
        clear hlong
        go_wp2
        have hres2 : (wr.setCell ⟨w.heap.size + 1 + 1 + 1, 0, none⟩ (.bool true)).heap[w.heap.size + 3]? = some (.cells #[.bool true] 4 (0, 0)) := by
          simp [World.setCell, Array.getElem?_modify, HF.out.rb]
        have hcq : (wr.setCell ⟨w.heap.size + 1 + 1 + 1, 0, none⟩ (.bool true)).cell? ⟨w.heap.size + 1 + 1 + 1, 0, none⟩ = some (.bool true) := by rw [cell_of_row _ _ _ _ _ _ hres2]; rfl
        refine ⟨.bool true, ?_, rfl, HF.out.bw.setCell (p := ⟨w.heap.size + 1 + 1 + 1, 0, none⟩) (by simp; omega) _⟩
        simp [results, Try.f3, go_sem, hcq]
      · have hd1 : decide ((200 : Int) < (r.d.length : Int)) = false := decide_eq_false (by omega)
        have hdl : r.d.length ≤ 200 := by omega
        have KO := Lib.hid (of_any r.d r.A r.c wr (HOK.out.rd.below HF.out.bw) HOK.out.nl HOK.out.b8 (by omega))
        clear hlong
        have hfl := frame_len r.d (by omega)
        have hbl2 := HF.out.br.1
        have hblen : (bOf ((dsOf rs).take i)).length ≤ 3000 := bOf_len (dsOf rs) i hl hi9 HD.out
        obtain ⟨Lb, hLb⟩ : ∃ Lb, (bOf ((dsOf rs).take i)).length = Lb := ⟨_, rfl⟩
        obtain ⟨Lf, hLf⟩ : ∃ Lf, (Fx.frame r.d).length = Lf := ⟨_, rfl⟩
        rw [hLb] at hblen
        rw [hLf] at hfl
        have HLb := Lib.hid hLb
        have HLf := Lib.hid hLf
        have hbr := HF.out.br
        rw [hLb] at hbr
        obtain ⟨Ab, cb, hbv⟩ := own_slF hbr
        subst hbv
        clear hLb hLf hbl2 hbr
        go_wp2_with fail
        refine KO.out.mono ?_
        rintro e w2 ⟨v2, rfl, ho2, hb2⟩
        obtain ⟨A2, c2, hv2, _, _, hA2, hrd2⟩ := Rd.own ho2
        rw [HLf.out] at hv2
        subst hv2
        have F2 := Lib.hid (HF.out.below hb2)
        have HO2 := Lib.hid hrd2
        have HA2 := Lib.hid hA2
        have HB2 := Lib.hid hb2
        have hT2 : T ≤ w2.heap.size := by have := F2.out.sz; omega
        clear lb rb eb rf ef ho2 hA2 hrd2 hb2 KO
        have hbr2 := F2.out.br
        rw [HLb.out] at hbr2
        have HBR2 := Lib.hid hbr2
        clear hbr2
        have fin3 : ∀ w3, w2.grownBy w3 (Value.slice Ab Lb cb).ownBlock → w3.cell? ⟨T + 1 + 1, 0, none⟩ = some ve ∧ w3.heap[T + 2]? = some (.cells #[ve] 25 (0, 0)) ∧ w3.ownsRow T 3 1 ve i ((fe 0 ((dsOf rs).take i)).map (fun n : Nat => Value.int .i64 n)) ∧ T + 2 < w3.heap.size := by
          intro w3 g3
          obtain ⟨nb1, nb2, nb3⟩ := F2.out.nb
          have hsz := F2.out.sz
          have eb3 : w3.heap[T + 2]? = some (.cells #[ve] 25 (0, 0)) := (g3.block _ (by omega) (fun e => nb1 e.symm)).trans F2.out.eb
          have er3 := own_blk F2.out.er (fun g e => g3.block g (F2.out.er.lt g e).2 (fun e2 => nb3 g e2.symm e))
          have hln : ((dsOf rs).take i).length = i := by simp; omega
          rw [hln] at er3
          exact ⟨by rw [cell_of_row _ _ _ _ _ _ eb3]; rfl, eb3, er3, by have := g3.size; omega⟩
        have HFIN3 := Lib.hid fin3
        have fin4 : ∀ (w3 w4 : World) (v4 : Value) (o : Obj), w2.grownBy w3 (Value.slice Ab Lb cb).ownBlock → (w3.alloc o).grownBy w4 ve.ownBlock → w4.cell? ⟨T + 1 + 1, 0, none⟩ = some ve ∧ w4.frozen? ⟨T + 1 + 1, 0, none⟩ = false := by
          intro w3 w4 v4 o g3 g4
          obtain ⟨_, eb3, er3, hsz⟩ := fin3 w3 g3
          have eb4 : w4.heap[T + 2]? = some (.cells #[ve] 25 (0, 0)) := (g4.block _ (by simp; omega) (fun e => row_ne_cells er3 eb3 (by decide) e.symm)).trans ((Below.heap_alloc _ _ _ (by omega)).trans eb3)
          exact ⟨by rw [cell_of_row _ _ _ _ _ _ eb4]; rfl, by simp [World.frozen?, eb4]⟩
        have HFIN4 := Lib.hid fin4
        clear fin3 fin4
        go_wp2_with (first
          | (at_builtin; refine wpList_append_rd rfl 24 rfl T 5 i0 (.int .u8 0) 1 Try.underlying24 hi hz0 hz1 hz2 _ Lb _ rfl HBR2.out A2 Lf c2 rfl (Fx.frame r.d) .u8 HLf.out HO2.out HA2.out rfl (by unfold maxLen; omega) (by omega) hT2 ?_; intro v3 w3 ho3 hg3; obtain ⟨A3, c3, hv3⟩ := own_slF ho3; subst hv3; have HG3 := Lib.hid (show w2.grownBy w3 (Value.slice Ab Lb cb).ownBlock from hg3); have HO3 := Lib.hid ho3; obtain ⟨ce3, _, er3, hz3⟩ := HFIN3.out w3 HG3.out; have HER3 := Lib.hid er3; clear ho3 hg3 er3)
          | (at_builtin; refine wpList_append_own _ rfl _ _ 25 rfl T 3 i1 (.int .i64 0) 1 8 Try.underlying25 hi' hy0 hy1 hy2 rfl (by decide) _ _ _ rfl (HER3.out.alloc _) ⟨w3.heap.size, 0, none⟩ 1 1 [.int .i64 (((Lb + Lf : Nat)) : Int)] rfl rfl (cell_one_new _ _ _) (by simp [Value.oneCell']) (by unfold maxLen; omega) (by omega) (by simp; omega) ?_; intro v4 w4 ho4 hg4 hnn; clear hnn; obtain ⟨A4, c4, hv4⟩ := own_slF ho4; subst hv4; have HG4 := Lib.hid (show (w3.alloc (.cells #[.int .i64 (((Lb + Lf : Nat)) : Int)] 3)).grownBy w4 ve.ownBlock from hg4); have HO4 := Lib.hid ho4; obtain ⟨ce4, cf4⟩ := HFIN4.out w3 w4 ve _ HG3.out HG4.out; clear ho4 hg4))
        have hln : ((dsOf rs).take i).length = i := by simp; omega
        have hN := HF.out.next (d := r.d) HB2.out (by rw [HLb.out, HLf.out]; exact HO3.out) HG3.out (by rw [HLb.out, HLf.out, hln]; exact HO4.out) HG4.out
        rw [← HTK.out] at hN
        have HN := Lib.hid hN
        clear hN hln
        go_roundw
        case rel => exact ⟨i + 1, _, by omega, by go_num, HN, Lib.hid (fun d hd => by
          rw [HTK.out, List.mem_append, List.mem_singleton] at hd
          rcases hd with hd | hd
          · exact HD.out d hd
          · rw [hd]; exact hdl), Lib.hid (fun e => by
            have h1 := frame_length r.d
            rw [HLf.out] at h1
            injection e with e1 e2 e3
            omega)⟩
        case measure => simp [intOf]; omega
    · obtain rfl : i = rs.length := by omega
      have hdt : (dsOf rs).take rs.length = dsOf rs := List.take_of_length_le (by simp)
      rw [hdt] at HF HD
      have hblen : (bOf (dsOf rs)).length ≤ 3000 := by
        have := bOf_len (dsOf rs) rs.length hl (Nat.le_refl _) (by rw [hdt]; exact HD.out)
        rwa [hdt] at this
      have hbr := HF.out.br
      obtain ⟨Lb, hLb⟩ : ∃ Lb, (bOf (dsOf rs)).length = Lb := ⟨_, rfl⟩
      rw [hLb] at hblen hbr
      obtain ⟨gb, cpb, hbv, hle, hmx, hTg, hgl⟩ := own_some hbr (fun e => HNV.out e)
      subst hbv
      have HLb := Lib.hid hLb
      have hwz : w.heap.size + 4 ≤ wr.heap.size := by have := HF.out.sz; have := HT4.out; omega
      have n1 : ¬ wr.heap.size = w.heap.size + 1 := by omega
      have n1' : ¬ w.heap.size + 1 = wr.heap.size := by omega
      unfold maxLen at hmx
      obtain ⟨cl, cc, cs, cr, ce⟩ := HF.out.cells
      obtain ⟨fc, fs, fr, ff⟩ := HF.out.fz
      have h16 := and16 cut0
      obtain ⟨m, hm⟩ : ∃ m : Nat, bits .and .i64 cut0 65535 = (m : Int) := ⟨(bits .and .i64 cut0 65535).toNat, by omega⟩
      obtain ⟨q, hq⟩ : ∃ q : Nat, m % (Lb + 1) = q := ⟨_, rfl⟩
      have hqL : q ≤ Lb := by have := Nat.mod_lt m (show 0 < Lb + 1 by omega); omega
      have hrem : (m : Int) % ((Lb + 1 : Nat) : Int) = (q : Int) := by rw [← hq]; simp
      have hrem2 : (m : Int) % ((Lb : Int) + 1) = (q : Int) := by rw [← hrem]; simp
      rw [hm] at h16
      have hF5 : Fb w A cap rs.length T (.slice (some ⟨gb, 0, none⟩) Lb cpb) ve q stop0 (dsOf rs) ((wr.setCell ⟨w.heap.size + 1, 0, none⟩ (.int .i64 q)).alloc (.cells #[.int .i64 0] 3)) := (HF.out.setQ q).below ((Below.refl _ _).alloc (Nat.le_refl _) _)
      have hn5 : ((wr.setCell ⟨w.heap.size + 1, 0, none⟩ (.int .i64 q)).alloc (.cells #[.int .i64 0] 3)).heap[wr.heap.size]? = some (.cells #[.int .i64 0] 3 (0, 0)) := by
        have := heap_alloc_new (wr.setCell ⟨w.heap.size + 1, 0, none⟩ (.int .i64 q)) (.cells #[.int .i64 0] 3)
        simpa using this
      have hcl : ((bOf (dsOf rs)).take q).length = q := by rw [List.length_take, hLb]; omega
      have hrd5 : Rd ((wr.setCell ⟨w.heap.size + 1, 0, none⟩ (.int .i64 q)).alloc (.cells #[.int .i64 0] 3)) .u8 (some ⟨gb, 0, none⟩) (bOf (dsOf rs)) := by
        have := hF5.br
        rw [hLb] at this
        exact rd_own' this
      have KA := All_any ((bOf (dsOf rs)).take q) gb 0 cpb _ (rd_tk q hrd5) (by omega)
      rw [hcl] at KA
      have HKA := Lib.hid KA
      obtain ⟨z0, z1, z2, z3, z4⟩ := hF5.cells
      have HVE := Lib.hid (show ∀ g, ve.ownBlock = some g → g < wr.heap.size from fun g e => (HF.out.er.lt g e).2)
      have HT2 := Lib.hid HF.out.sz
      have HF5 := Lib.hid hF5
      have HN5 := Lib.hid hn5
      have hs5 : ((wr.setCell ⟨w.heap.size + 1, 0, none⟩ (.int .i64 q)).alloc (.cells #[.int .i64 0] 3)).heap.size = wr.heap.size + 1 := by simp
      have HS5 := Lib.hid hs5
      clear hbr hdt hLb hq lb rb eb rf ef HNV HF0 KA hF5 hn5 hrd5 hs5 hcl
      go_wp2_with fail
      obtain ⟨W5, hW5⟩ : ∃ W5, (wr.setCell ⟨w.heap.size + 1, 0, none⟩ (.int .i64 q)).alloc (.cells #[.int .i64 0] 3) = W5 := ⟨_, rfl⟩
      rw [hW5] at HKA HF5 HN5 HS5 ⊢
      obtain ⟨R, hR⟩ : ∃ R, wr.heap.size = R := ⟨_, rfl⟩
      rw [hR] at HN5 HS5 hgl hwz HVE HT2 ⊢
      clear hW5 z0 z1 z2 z3 z4 cl cc cs cr ce fc fs fr ff n1 n1' hm h16 hrem hrem2 hR HF
      refine HKA.out.mono ?_
      rintro e w6 ⟨B0, g6, c6, rfl, hsrc, hq6, hm6, hB0, hg6, hgB, hB6, hb6⟩
      have hs5 := HS5.out
      have HCH := Lib.hid (chain_of (dsOf rs) HD.out [] q (Nat.zero_le _) (by have := HLb.out; simp; omega))
      simp only [List.nil_append, List.length_nil, Nat.sub_zero] at HCH
      have hc8 : Byte8 ((bOf (dsOf rs)).take q) := (bOf_byte rs HR.out).take q
      have hcl : ((bOf (dsOf rs)).take q).length = q := by rw [List.length_take, HLb.out]; omega
      have HP0 := Lib.hid (FbN.below (W' := w6) ⟨HF5.out, HN5.out, HT2.out, (fun g e => by cases e; exact hgl), HVE.out⟩ hb6)
      have HSRC := Lib.hid hsrc
      have HYL := Lib.hid (wh_len 0 (dsOf rs) q)
      have HC8 := Lib.hid hc8
      clear hsrc hb6 HKA HN5 HF5 hc8
      go_wp2
      refine (wpIn_wide (n := 9)).1 ?_
      refine range_R rfl (enters_of Try.func24 (by kernel_rfl) rfl)
        (iterF_stops B0 (some ⟨g6, 0, none⟩) c6 ((bOf (dsOf rs)).take q) (wh 0 (dsOf rs) q) 8 HC8.out (by rw [hcl]; exact hq6) hm6 (by rw [hcl]; omega) HCH.out (fun e => by cases e) (fun ad e => by cases e; rfl) w6 HSRC.out) yr_kb srcF_kt (fun W l o o' h1 h2 => srcF_kb W l o o' h1 h2) (fun _ => rfl)
        (fun pre W => pre.map yf <+: wh 0 (dsOf rs) q ∧ FbN w A cap rs.length T (.slice (some ⟨gb, 0, none⟩) Lb cpb) ve q stop0 (dsOf rs) R pre.length W)
        (fun _ pre _ => ¬ pre.map yf <+: wh 0 (dsOf rs) q)
        (OwnFrom.and (fun _ _ _ _ h _ _ => h) (FbN.own (by omega) (fun pre => pre.length))) (fun _ _ _ _ _ hs _ _ => hs) ⟨by simp, HP0.out⟩ ?a1 ?assign ?body ?done ?stop
      case assign =>
        intro l x W K hK
        gi_wp2
        exact hK
      case body =>
        rintro l pre ⟨e, v, d⟩ W ⟨hpre, hI⟩ hlt2 hx
        obtain ⟨cl, cc, cs, cr, ce⟩ := hI.fb.cells
        obtain ⟨fc, fs, fr, ff⟩ := hI.fb.fz
        have cn : W.cell? ⟨R, 0, none⟩ = some (.int .i64 pre.length) := by rw [cell_of_row _ _ _ _ _ _ hI.nb]; rfl
        have fn : W.frozen? ⟨R, 0, none⟩ = false := by simp [World.frozen?, hI.nb]
        obtain ⟨ek, dk, hy, hfe, hds, hekq⟩ := wh_at hlt2
        have HPY := Lib.hid (fun x => pre_yf (x := x) hpre hy)
        obtain ⟨r, hrk, hrd⟩ : ∃ r, rs[pre.length]? = some r ∧ r.d = dk := by
          rw [List.getElem?_map] at hds
          cases hq2 : rs[pre.length]? with
          | none => rw [hq2] at hds; cases hds
          | some r => rw [hq2] at hds; exact ⟨r, rfl, by simpa using hds⟩
        subst hrd
        obtain ⟨b, off, hA, hbl, hce0, hok⟩ := HR.out.at_ hrk
        have hcel : W.cell? ⟨b, off + pre.length, none⟩ = some (.slice r.A r.d.length r.c) := (hI.fb.bw.cell (p := ⟨b, off + pre.length, none⟩) hbl).trans hce0
        obtain ⟨ge, cpe, hve, hlen9, hmx9, hcell9⟩ := hI.fb.end_at hfe
        rw [List.length_map] at hve hlen9
        have hklt : pre.length < rs.length := (List.getElem?_eq_some_iff.1 hrk).1
        obtain ⟨Av, cv, hv, _, _, _, hrdx⟩ := Rd.own hx.row
        simp only at hv hrdx
        have kv1 := fun nq => conv5 (w := W.drewN nq) (A := Av) (cap := cv) (l := d) (hrdx.below (below_drewN (Below.refl _ W) nq))
        have kv2 := fun nq => conv5 (w := W.drewN nq) (A := r.A) (cap := r.c) (l := r.d) ((hok.rd.below hI.fb.bw).below (below_drewN (Below.refl _ W) nq))
        have HX8 := Lib.hid hx.b8
        have HR8 := Lib.hid hok.b8
        have HI := Lib.hid hI
        subst hA
        subst hve
        subst hv
        obtain ⟨k, hk⟩ : ∃ k, pre.length = k := ⟨_, rfl⟩
        rw [hk] at cn hcel hcell9 hklt HI
        have HK := Lib.hid hk
        have dk1 : decide ((rs.length : Int) ≤ (k : Int)) = false := decide_eq_false (by omega)
        have dk1' : decide (rs.length ≤ k) = false := decide_eq_false (by omega)
        unfold maxLen at hmx9
        clear hI hk hx hce0 hok hrdx hy hfe hds hrk hpre hlt2
        by_cases he : e = ek
        · subst he
          have d2 : (((e : Nat) : Int) != ((e : Nat) : Int)) = false := by simp
          have d2' : (e != e) = false := by simp
          have d3 : decide ((q : Int) < (e : Int)) = false := decide_eq_false (by omega)
          have d3' : decide (q < e) = false := decide_eq_false (by omega)
          by_cases hsd : strOfNums d = strOfNums r.d
          · have hdd : d = r.d := strn_inj HX8.out HR8.out hsd
            have d4 : ((strOfNums d).toList == (strOfNums r.d).toList) = true := by rw [hsd]; simp
            have HXX := Lib.hid ((HPY.out (e, .slice Av d.length cv, d)).2 (by rw [hdd]))
            clear hdd hsd
            gi_wp2
            refine region_round (by kernel_rfl) (by kernel_rfl) (by kernel_rfl) ?_
            repeat (gi_big_quiet_step (fail))
            refine wpQuietIn_nil ?_
            rintro _ ⟨nq, rfl⟩
            gi_wp2
            refine ⟨(keeps_drewN W nq).trans (KeepsOthers.setCell _ _ _), fun hs => (hs.drewN nq).setFar (by omega) (by omega) _, HXX.out, ?_⟩
            rw [List.length_append, HK.out]
            exact HI.out.set (k + 1) nq
          · have d4 : ((strOfNums d).toList == (strOfNums r.d).toList) = false := by
              rw [beq_eq_false_iff_ne]
              intro h
              exact hsd (str_ext h)
            have HXX := Lib.hid (show ¬ (pre ++ [(e, Value.slice Av d.length cv, d)]).map yf <+: wh 0 (dsOf rs) q from fun h => hsd (by
              have h2 := (HPY.out (e, .slice Av d.length cv, d)).1 h
              have h3 : d = r.d := congrArg Prod.snd h2
              rw [h3]))
            clear hsd
            gi_wp2
            refine region_round (by kernel_rfl) (by kernel_rfl) (by kernel_rfl) ?_
            repeat (gi_big_quiet_step (fail))
            refine wpQuietIn_nil ?_
            rintro _ ⟨nq, rfl⟩
            gi_wp2
            exact ⟨(keeps_drewN W nq).trans (KeepsOthers.setCell _ _ _), HXX.out⟩
        · have d2 : (((e : Nat) : Int) != ((ek : Nat) : Int)) = true := by simp; omega
          have d2' : (e != ek) = true := by simpa using he
          have HXX := Lib.hid (show ¬ (pre ++ [(e, Value.slice Av d.length cv, d)]).map yf <+: wh 0 (dsOf rs) q from fun h => he (by
            have h2 := (HPY.out (e, .slice Av d.length cv, d)).1 h
            exact congrArg Prod.fst h2))
          clear he
          gi_wp2
          refine region_round (by kernel_rfl) (by kernel_rfl) (by kernel_rfl) ?_
          repeat (gi_big_quiet_step (fail))
          refine wpQuietIn_nil ?_
          rintro _ ⟨nq, rfl⟩
          gi_wp2
          exact ⟨(keeps_drewN W nq).trans (KeepsOthers.setCell _ _ _), HXX.out⟩
      case stop =>
        rintro D c pre W _ hpre h
        exact absurd hpre h
      case done =>
        rintro D xs W hD hxs ⟨_, hI⟩ hK
        have hxl : xs.length = (wh 0 (dsOf rs) q).length := by rw [← hxs]; simp
        obtain ⟨nn, hnn⟩ : ∃ nn, xs.length = nn := ⟨_, rfl⟩
        rw [hnn] at hI hxl
        have HNN := Lib.hid hxl
        obtain ⟨cl, cc, cs, cr, ce⟩ := hI.fb.cells
        obtain ⟨fc, fs, fr, ff⟩ := hI.fb.fz
        have cn : W.cell? ⟨R, 0, none⟩ = some (.int .i64 nn) := by rw [cell_of_row _ _ _ _ _ _ hI.nb]; rfl
        have hnr : nn ≤ rs.length := by have := HYL.out; rw [← hxl, List.length_map] at this; exact this
        obtain ⟨h30, h37⟩ := and3 stop0
        obtain ⟨st, hst⟩ : ∃ st : Nat, bits .and .i64 stop0 7 = (st : Int) := ⟨(bits .and .i64 stop0 7).toNat, by omega⟩
        rw [hst] at h30 h37
        have HI := Lib.hid hI
        obtain ⟨Ae, ce9, hve9⟩ := own_slF hI.fb.er
        rw [List.length_map] at hve9
        have hKB := (Array.getElem?_eq_some_iff.1 hK).1
        have hDR : R < D := by omega
        -- what stands behind the test, for whatever count of draws
        have fin : ∀ nq : Nat, FbN w A cap rs.length T (.slice (some ⟨gb, 0, none⟩) Lb cpb) ve q st (dsOf rs) R nn (((W.drewN nq).setCell ⟨w.heap.size + 1 + 1, 0, none⟩ (.int .i64 st)).alloc (.cells #[.int .i64 0] 3)) ∧ (((W.drewN nq).setCell ⟨w.heap.size + 1 + 1, 0, none⟩ (.int .i64 st)).alloc (.cells #[.int .i64 0] 3)).heap[W.heap.size]? = some (.cells #[.int .i64 0] 3 (0, 0)) ∧ (((W.drewN nq).setCell ⟨w.heap.size + 1 + 1, 0, none⟩ (.int .i64 st)).alloc (.cells #[.int .i64 0] 3)).heap[D]? = some (.deferred (some [])) ∧ (((W.drewN nq).setCell ⟨w.heap.size + 1 + 1, 0, none⟩ (.int .i64 st)).alloc (.cells #[.int .i64 0] 3)).heap.size = W.heap.size + 1 := by
          intro nq
          refine ⟨(HI.out.setS st nq).below ((Below.refl _ _).alloc (Nat.le_refl _) _), ?_, ?_, by simp⟩
          · have := heap_alloc_new ((W.drewN nq).setCell ⟨w.heap.size + 1 + 1, 0, none⟩ (.int .i64 st)) (.cells #[.int .i64 0] 3)
            simpa using this
          · rw [Below.heap_alloc _ _ _ (by simpa using hKB), Below.heap_setCell _ ⟨w.heap.size + 1 + 1, 0, none⟩ _ D (by simp; omega)]
            exact hK
        have HFIN := Lib.hid fin
        have HK := Lib.hid hK
        clear fin hK hI hxs hxl hnn HP0 HSRC
        have ce2 := ce
        rw [hve9] at ce2
        have HVE9 := Lib.hid hve9
        clear ce hve9
        have hrdb : Rd W .u8 (some ⟨gb, 0, none⟩) (bOf (dsOf rs)) := by
          have := HI.out.fb.br
          rw [HLb.out] at this
          exact rd_own' this
        have KA := fun nq => All_any (bOf (dsOf rs)) gb 0 cpb (((W.drewN nq).setCell ⟨w.heap.size + 1 + 1, 0, none⟩ (.int .i64 st)).alloc (.cells #[.int .i64 0] 3)) (by
          have := (HFIN.out nq).1.fb.br
          rw [HLb.out] at this
          exact rd_own' this) (by rw [HLb.out]; omega)
        rw [HLb.out] at KA
        have HKA := Lib.hid KA
        clear KA hrdb
        by_cases hlt3 : nn < rs.length
        · obtain ⟨e, hfe⟩ : ∃ e, (fe 0 (dsOf rs))[nn]? = some e := ⟨_, List.getElem?_eq_getElem (by rw [fe_len, List.length_map]; exact hlt3)⟩
          have hqe : q < e := wh_stop (by rw [← HNN.out]; exact hfe)
          obtain ⟨ge, cpe, hve, hlen9, hmx9, hcell9⟩ := HI.out.fb.end_at hfe
          rw [List.length_map] at hve hlen9
          rw [HVE9.out] at hve
          injection hve with hv1 hv2 hv3
          subst hv1
          subst hv3
          unfold maxLen at hmx9
          have g0 : decide ((nn : Int) < (rs.length : Int)) = true := decide_eq_true (by omega)
          have g0' : decide (nn < rs.length) = true := decide_eq_true hlt3
          have g1 : decide ((e : Int) ≤ (q : Int)) = false := decide_eq_false (by omega)
          have g1' : decide (e ≤ q) = false := decide_eq_false (by omega)
          clear hfe hqe
          go_wp2_with fail
          go_quiet (fail)
          obtain ⟨hf1, hf2, hf3, hf4⟩ := HFIN.out nq
          obtain ⟨y0, y1, y2, y3, y4⟩ := hf1.fb.cells
          have HF1 := Lib.hid hf1
          have HF2 := Lib.hid hf2
          have HF3 := Lib.hid hf3
          have HF4 := Lib.hid hf4
          clear hf1 hf2 hf3 hf4
          go_wp2_with fail
          obtain ⟨W7, hW7⟩ : ∃ W7, ((W.drewN nq).setCell ⟨w.heap.size + 1 + 1, 0, none⟩ (.int .i64 st)).alloc (.cells #[.int .i64 0] 3) = W7 := ⟨_, rfl⟩
          have HK7 := Lib.hid (HKA.out nq)
          rw [hW7] at HF1 HF2 HF3 HF4 HK7 ⊢
          obtain ⟨R2, hR2⟩ : ∃ R2, W.heap.size = R2 := ⟨_, rfl⟩
          rw [hR2] at HF2 HF4 hKB ⊢
          clear hW7 hR2 y0 y1 y2 y3 y4 cl cc cs cr cn fc fs fr ff ce2 hst
          refine HK7.out.mono ?_
          rintro e w8 ⟨B2, g8, c8, rfl, hsrc, hq8, hm8, hB8, hg8, hgB8, hB88, hb8⟩
          have hs8 := HF4.out
          have HCH2 := Lib.hid (chain_of (dsOf rs) HD.out [] Lb (Nat.zero_le _) (by have := HLb.out; simp; omega))
          simp only [List.nil_append, List.length_nil, Nat.sub_zero] at HCH2
          rw [List.take_of_length_le (by rw [HLb.out]; exact Nat.le_refl _)] at HCH2
          have HWA := Lib.hid (wh_all (dsOf rs))
          rw [HLb.out, List.length_map] at HWA
          have HFI := Lib.hid (Fi.below (W' := w8) (R2 := R2) (D := D) (j := 0) ⟨HF1.out, HF2.out, HF3.out, hDR, hKB⟩ hb8)
          have HS8 := Lib.hid hsrc
          have HB8 := Lib.hid (bOf_byte rs HR.out)
          clear hsrc hb8 HK7 HF1 HF2 HF3 HKA HFIN
          go_wp2
          refine (wpIn_wide (n := 9)).1 ?_
          refine range_R rfl (enters_of Try.func24 (by kernel_rfl) rfl)
            (iterF_stops B2 (some ⟨g8, 0, none⟩) c8 (bOf (dsOf rs)) (wh 0 (dsOf rs) Lb) 8 HB8.out (by rw [HLb.out]; exact hq8) hm8 (by rw [HLb.out]; omega) HCH2.out (fun e => by cases e) (fun ad e => by cases e; rfl) w8 HS8.out) yr_kb srcF_kt (fun W l o o' h1 h2 => srcF_kb W l o o' h1 h2) (fun _ => rfl)
            (fun pre W => Fi w A cap rs.length T (.slice (some ⟨gb, 0, none⟩) Lb cpb) ve q st (dsOf rs) R nn D R2 pre.length W ∧ pre.length ≤ st)
            (fun c pre W => (c = .exit 4 ∧ pre.length = st + 1) ∧ Fi w A cap rs.length T (.slice (some ⟨gb, 0, none⟩) Lb cpb) ve q st (dsOf rs) R nn D R2 (pre.length - 1) W)
            (OwnFrom.and (Fi.own (by omega) (fun pre => pre.length)) (fun _ _ _ _ h _ _ => h)) (fun c => OwnFrom.and (fun _ _ _ _ h _ _ => h) (Fi.own (by omega) (fun pre => pre.length - 1))) ⟨HFI.out, by simp⟩ ?a2p ?assign2p ?body2p ?done2p ?stop2p
          case assign2p =>
            intro l x W K hK
            gi_wp2
            exact hK
          case body2p =>
            rintro l pre ⟨e, v, d⟩ W ⟨hI, hps⟩ hlt2 hx
            obtain ⟨_, _, cs, _, _⟩ := hI.fn.fb.cells
            have cn : W.cell? ⟨R2, 0, none⟩ = some (.int .i64 pre.length) := by rw [cell_of_row _ _ _ _ _ _ hI.kb]; rfl
            have fn : W.frozen? ⟨R2, 0, none⟩ = false := by simp [World.frozen?, hI.kb]
            have HI2 := Lib.hid hI
            obtain ⟨k, hk⟩ : ∃ k, pre.length = k := ⟨_, rfl⟩
            rw [hk] at cn HI2 hps
            have HK2 := Lib.hid hk
            clear hI hx hk hlt2
            by_cases hks : k = st
            · have d0 : (((k : Nat) : Int) == (st : Int)) = true := by simp [hks]
              have d0' : (k == st) = true := by simp [hks]
              have HKS := Lib.hid hks
              clear hks
              gi_wp2
              refine ⟨KeepsOthers.refl _, ⟨rfl, by rw [List.length_append, HK2.out, HKS.out]; rfl⟩, ?_⟩
              rw [List.length_append, HK2.out]
              exact HI2.out
            · have d0 : (((k : Nat) : Int) == (st : Int)) = false := by rw [beq_eq_false_iff_ne]; omega
              have d0' : (k == st) = false := by rw [beq_eq_false_iff_ne]; omega
              have hkl : k + 1 ≤ st := by omega
              clear hks
              gi_wp2
              refine ⟨KeepsOthers.setCell _ _ _, fun hs => hs.setFar (by omega) (by omega) _, ?_, by rw [List.length_append, HK2.out]; exact hkl⟩
              rw [List.length_append, HK2.out]
              exact HI2.out.set (k + 1)
          case done2p =>
            rintro D2 xs2 W2 hD2 hxs2 ⟨hI2, hle2⟩ hK2
            have hx2 : xs2.length = rs.length := by have h1 : xs2.length = (wh 0 (dsOf rs) Lb).length := by rw [← hxs2]; simp
                                                    rw [h1, HWA.out]
            rw [hx2] at hI2 hle2
            clear hx2 hxs2
            have DSZ : R2 < D2 := by omega
            by_cases hmin : rs.length < st
            · obtain ⟨cl, cc, cs, cr, ce⟩ := hI2.fn.fb.cells
              have ck : W2.cell? ⟨R2, 0, none⟩ = some (.int .i64 rs.length) := by rw [cell_of_row _ _ _ _ _ _ hI2.kb]; rfl
              have HI2 := Lib.hid hI2
              have hrdb2 : Rd W2 .u8 (some ⟨gb, 0, none⟩) (bOf (dsOf rs)) := by
                have := hI2.fn.fb.br
                rw [HLb.out] at this
                exact rd_own' this
              have KW := Whole_any ((bOf (dsOf rs)).take q) gb 0 cpb (wh 0 (dsOf rs) q) 8 W2 (rd_tk q hrdb2) HC8.out (by rw [hcl]; omega) (by unfold maxLen; omega) (by rw [hcl]; omega) HCH.out
              rw [hcl] at KW
              have HKW := Lib.hid KW
              have HKD := Lib.hid hK2
              clear KW hrdb2 hI2 hK2
              have hm1 : (rs.length : Int) < (st : Int) := by omega
              have hm2 : ((rs.length : Int) != (rs.length : Int)) = false := by simp
              have hm3 : (rs.length != rs.length) = false := by simp
              go_wp2_with fail
              refine HKW.out.mono ?_
              rintro e w9 ⟨hb9, hpost⟩
              rw [hcl] at hpost
              have HI9 := Lib.hid (HI2.out.below hb9)
              have HD9 := Lib.hid ((hb9.block D2 (Array.getElem?_eq_some_iff.1 HKD.out).1).trans HKD.out)
              clear cl cc cs cr ce ck hb9
              obtain ⟨cl, cc, cs, cr, ce⟩ := HI9.out.fn.fb.cells
              obtain ⟨fc, fs, fr, ff⟩ := HI9.out.fn.fb.fz
              have cnn : w9.cell? ⟨R, 0, none⟩ = some (.int .i64 nn) := by rw [cell_of_row _ _ _ _ _ _ HI9.out.fn.nb]; rfl
              have fin9 : ∀ nq2 : Nat, (fun e w' => e = Ending.returned (.bool true) ∧ Below w.heap.size w w') (.returned (.bool true)) ((((w9.drewN nq2).setCell ⟨w.heap.size + 1 + 1 + 1, 0, none⟩ (.bool true)).putObj D2 (.deferred none)).putObj D (.deferred none)) ∧
                  ((w9.drewN nq2).setCell ⟨w.heap.size + 1 + 1 + 1, 0, none⟩ (.bool true)).heap[D2]? = some (.deferred (some [])) ∧
                  (((w9.drewN nq2).setCell ⟨w.heap.size + 1 + 1 + 1, 0, none⟩ (.bool true)).putObj D2 (.deferred none)).heap[D]? = some (.deferred (some [])) ∧
                  ((((w9.drewN nq2).setCell ⟨w.heap.size + 1 + 1 + 1, 0, none⟩ (.bool true)).putObj D2 (.deferred none)).putObj D (.deferred none)).cell? ⟨w.heap.size + 1 + 1 + 1, 0, none⟩ = some (.bool true) := fun nq2 => law_end HI9.out HD9.out (by omega) nq2
              have HFIN9 := Lib.hid fin9
              clear fin9
              by_cases hEq : endOf (wh 0 (dsOf rs) q) < q
              · rw [if_pos hEq] at hpost
                subst hpost
                have hq0 : ((q : Int) == 0) = false := by rw [beq_eq_false_iff_ne]; omega
                have hq0' : (q == 0) = false := by rw [beq_eq_false_iff_ne]; omega
                by_cases hn0 : nn = 0
                · subst hn0
                  clear hEq
                  try (exfalso; omega)
                  all_goals
                    go_wp2_with fail
                    go_quiet (fail)
                    obtain ⟨q1, q2, q3, q4⟩ := HFIN9.out nq
                    go_wp2
                    refine ⟨by simp, .inl ⟨_, _, rfl, run_takeDeferred q2, ?_⟩⟩
                    refine ⟨by simp, .inl ⟨_, _, rfl, run_takeDeferred q3, ?_⟩⟩
                    refine ⟨.bool true, ?_, rfl, q1.2⟩
                    simp [results, Try.f3, go_sem, q4]
                · obtain ⟨n', rfl⟩ : ∃ n', nn = n' + 1 := ⟨nn - 1, by omega⟩
                  obtain ⟨e9, d9, hy9, hfe9, _, _⟩ := wh_at (p := 0) (ds := dsOf rs) (q := q) (i := n') (by rw [← HNN.out]; omega)
                  have hE9 := endOf_at hy9 HNN.out.symm
                  rw [hE9] at hEq
                  obtain ⟨ge, cpe, hve, hlen9, hmx9, hcell9⟩ := HI9.out.fn.fb.end_at hfe9
                  rw [List.length_map] at hve hlen9
                  rw [hve] at ce
                  have hsub : (((n' + 1 : Nat)) : Int) - 1 = (n' : Int) := by omega
                  have hsub2 : ((n' : Int) + 1) - 1 = (n' : Int) := by omega
                  have hp0 : decide ((0 : Int) < (((n' + 1 : Nat)) : Int)) = true := decide_eq_true (by omega)
                  have hp1 : decide ((0 : Int) < (n' : Int) + 1) = true := decide_eq_true (by omega)
                  have hne : ((e9 : Int) == (q : Int)) = false := by rw [beq_eq_false_iff_ne]; omega
                  have hne' : (e9 == q) = false := by rw [beq_eq_false_iff_ne]; omega
                  have hnl9 : n' < rs.length := by omega
                  unfold maxLen at hmx9
                  clear hEq hE9 hy9 hfe9 hve hn0
                  go_wp2_with fail
                  go_quiet (fail)
                  obtain ⟨q1, q2, q3, q4⟩ := HFIN9.out nq
                  go_wp2
                  refine ⟨by simp, .inl ⟨_, _, rfl, run_takeDeferred q2, ?_⟩⟩
                  refine ⟨by simp, .inl ⟨_, _, rfl, run_takeDeferred q3, ?_⟩⟩
                  refine ⟨.bool true, ?_, rfl, q1.2⟩
                  simp [results, Try.f3, go_sem, q4]
              · rw [if_neg hEq] at hpost
                obtain ⟨A9, c9, rfl⟩ := hpost
                rw [← HNN.out]
                have hnn9 : ((nn : Int) == (nn : Int)) = true := by simp
                by_cases hq : q = 0
                · have hq0 : ((q : Int) == 0) = true := by simp [hq]
                  have hq0' : (q == 0) = true := by simp [hq]
                  clear hEq hq
                  go_wp2_with fail
                  go_quiet (fail)
                  obtain ⟨q1, q2, q3, q4⟩ := HFIN9.out nq
                  go_wp2
                  refine ⟨by simp, .inl ⟨_, _, rfl, run_takeDeferred q2, ?_⟩⟩
                  refine ⟨by simp, .inl ⟨_, _, rfl, run_takeDeferred q3, ?_⟩⟩
                  refine ⟨.bool true, ?_, rfl, q1.2⟩
                  simp [results, Try.f3, go_sem, q4]
                · have hq0 : ((q : Int) == 0) = false := by rw [beq_eq_false_iff_ne]; omega
                  have hq0' : (q == 0) = false := by rw [beq_eq_false_iff_ne]; omega
                  have hn0 : ¬ nn = 0 := fun h => by
                    have := endOf_nil (ys := wh 0 (dsOf rs) q) (by rw [← HNN.out]; exact h)
                    omega
                  obtain ⟨n', rfl⟩ : ∃ n', nn = n' + 1 := ⟨nn - 1, by omega⟩
                  obtain ⟨e9, d9, hy9, hfe9, _, he9q⟩ := wh_at (p := 0) (ds := dsOf rs) (q := q) (i := n') (by rw [← HNN.out]; omega)
                  have hE9 := endOf_at hy9 HNN.out.symm
                  rw [hE9] at hEq
                  obtain ⟨ge, cpe, hve, hlen9, hmx9, hcell9⟩ := HI9.out.fn.fb.end_at hfe9
                  rw [List.length_map] at hve hlen9
                  rw [hve] at ce
                  have hsub : (((n' + 1 : Nat)) : Int) - 1 = (n' : Int) := by omega
                  have hsub2 : ((n' : Int) + 1) - 1 = (n' : Int) := by omega
                  have hp0 : decide ((0 : Int) < (((n' + 1 : Nat)) : Int)) = true := decide_eq_true (by omega)
                  have hp1 : decide ((0 : Int) < (n' : Int) + 1) = true := decide_eq_true (by omega)
                  have hne : ((e9 : Int) == (q : Int)) = true := by rw [beq_iff_eq]; omega
                  have hne' : (e9 == q) = true := by rw [beq_iff_eq]; omega
                  have hnl9 : n' < rs.length := by omega
                  unfold maxLen at hmx9
                  clear hEq hE9 hy9 hfe9 hve hn0 hq he9q
                  go_wp2_with fail
                  go_quiet (fail)
                  obtain ⟨q1, q2, q3, q4⟩ := HFIN9.out nq
                  go_wp2
                  refine ⟨by simp, .inl ⟨_, _, rfl, run_takeDeferred q2, ?_⟩⟩
                  refine ⟨by simp, .inl ⟨_, _, rfl, run_takeDeferred q3, ?_⟩⟩
                  refine ⟨.bool true, ?_, rfl, q1.2⟩
                  simp [results, Try.f3, go_sem, q4]
            · obtain ⟨cl, cc, cs, cr, ce⟩ := hI2.fn.fb.cells
              have ck : W2.cell? ⟨R2, 0, none⟩ = some (.int .i64 rs.length) := by rw [cell_of_row _ _ _ _ _ _ hI2.kb]; rfl
              have HI2 := Lib.hid hI2
              have hrdb2 : Rd W2 .u8 (some ⟨gb, 0, none⟩) (bOf (dsOf rs)) := by
                have := hI2.fn.fb.br
                rw [HLb.out] at this
                exact rd_own' this
              have KW := Whole_any ((bOf (dsOf rs)).take q) gb 0 cpb (wh 0 (dsOf rs) q) 8 W2 (rd_tk q hrdb2) HC8.out (by rw [hcl]; omega) (by unfold maxLen; omega) (by rw [hcl]; omega) HCH.out
              rw [hcl] at KW
              have HKW := Lib.hid KW
              have HKD := Lib.hid hK2
              clear KW hrdb2 hI2 hK2
              have hm0 : ¬ (rs.length : Int) < (st : Int) := by omega
              have hm2 : ((rs.length : Int) != (st : Int)) = false := by simp; omega
              have hm3 : (rs.length != st) = false := by simp; omega
              go_wp2_with fail
              refine HKW.out.mono ?_
              rintro e w9 ⟨hb9, hpost⟩
              rw [hcl] at hpost
              have HI9 := Lib.hid (HI2.out.below hb9)
              have HD9 := Lib.hid ((hb9.block D2 (Array.getElem?_eq_some_iff.1 HKD.out).1).trans HKD.out)
              clear cl cc cs cr ce ck hb9
              obtain ⟨cl, cc, cs, cr, ce⟩ := HI9.out.fn.fb.cells
              obtain ⟨fc, fs, fr, ff⟩ := HI9.out.fn.fb.fz
              have cnn : w9.cell? ⟨R, 0, none⟩ = some (.int .i64 nn) := by rw [cell_of_row _ _ _ _ _ _ HI9.out.fn.nb]; rfl
              have fin9 : ∀ nq2 : Nat, (fun e w' => e = Ending.returned (.bool true) ∧ Below w.heap.size w w') (.returned (.bool true)) ((((w9.drewN nq2).setCell ⟨w.heap.size + 1 + 1 + 1, 0, none⟩ (.bool true)).putObj D2 (.deferred none)).putObj D (.deferred none)) ∧
                  ((w9.drewN nq2).setCell ⟨w.heap.size + 1 + 1 + 1, 0, none⟩ (.bool true)).heap[D2]? = some (.deferred (some [])) ∧
                  (((w9.drewN nq2).setCell ⟨w.heap.size + 1 + 1 + 1, 0, none⟩ (.bool true)).putObj D2 (.deferred none)).heap[D]? = some (.deferred (some [])) ∧
                  ((((w9.drewN nq2).setCell ⟨w.heap.size + 1 + 1 + 1, 0, none⟩ (.bool true)).putObj D2 (.deferred none)).putObj D (.deferred none)).cell? ⟨w.heap.size + 1 + 1 + 1, 0, none⟩ = some (.bool true) := fun nq2 => law_end HI9.out HD9.out (by omega) nq2
              have HFIN9 := Lib.hid fin9
              clear fin9
              by_cases hEq : endOf (wh 0 (dsOf rs) q) < q
              · rw [if_pos hEq] at hpost
                subst hpost
                have hq0 : ((q : Int) == 0) = false := by rw [beq_eq_false_iff_ne]; omega
                have hq0' : (q == 0) = false := by rw [beq_eq_false_iff_ne]; omega
                by_cases hn0 : nn = 0
                · subst hn0
                  clear hEq
                  try (exfalso; omega)
                  all_goals
                    go_wp2_with fail
                    go_quiet (fail)
                    obtain ⟨q1, q2, q3, q4⟩ := HFIN9.out nq
                    go_wp2
                    refine ⟨by simp, .inl ⟨_, _, rfl, run_takeDeferred q2, ?_⟩⟩
                    refine ⟨by simp, .inl ⟨_, _, rfl, run_takeDeferred q3, ?_⟩⟩
                    refine ⟨.bool true, ?_, rfl, q1.2⟩
                    simp [results, Try.f3, go_sem, q4]
                · obtain ⟨n', rfl⟩ : ∃ n', nn = n' + 1 := ⟨nn - 1, by omega⟩
                  obtain ⟨e9, d9, hy9, hfe9, _, _⟩ := wh_at (p := 0) (ds := dsOf rs) (q := q) (i := n') (by rw [← HNN.out]; omega)
                  have hE9 := endOf_at hy9 HNN.out.symm
                  rw [hE9] at hEq
                  obtain ⟨ge, cpe, hve, hlen9, hmx9, hcell9⟩ := HI9.out.fn.fb.end_at hfe9
                  rw [List.length_map] at hve hlen9
                  rw [hve] at ce
                  have hsub : (((n' + 1 : Nat)) : Int) - 1 = (n' : Int) := by omega
                  have hsub2 : ((n' : Int) + 1) - 1 = (n' : Int) := by omega
                  have hp0 : decide ((0 : Int) < (((n' + 1 : Nat)) : Int)) = true := decide_eq_true (by omega)
                  have hp1 : decide ((0 : Int) < (n' : Int) + 1) = true := decide_eq_true (by omega)
                  have hne : ((e9 : Int) == (q : Int)) = false := by rw [beq_eq_false_iff_ne]; omega
                  have hne' : (e9 == q) = false := by rw [beq_eq_false_iff_ne]; omega
                  have hnl9 : n' < rs.length := by omega
                  unfold maxLen at hmx9
                  clear hEq hE9 hy9 hfe9 hve hn0
                  go_wp2_with fail
                  go_quiet (fail)
                  obtain ⟨q1, q2, q3, q4⟩ := HFIN9.out nq
                  go_wp2
                  refine ⟨by simp, .inl ⟨_, _, rfl, run_takeDeferred q2, ?_⟩⟩
                  refine ⟨by simp, .inl ⟨_, _, rfl, run_takeDeferred q3, ?_⟩⟩
                  refine ⟨.bool true, ?_, rfl, q1.2⟩
                  simp [results, Try.f3, go_sem, q4]
              · rw [if_neg hEq] at hpost
                obtain ⟨A9, c9, rfl⟩ := hpost
                rw [← HNN.out]
                have hnn9 : ((nn : Int) == (nn : Int)) = true := by simp
                by_cases hq : q = 0
                · have hq0 : ((q : Int) == 0) = true := by simp [hq]
                  have hq0' : (q == 0) = true := by simp [hq]
                  clear hEq hq
                  go_wp2_with fail
                  go_quiet (fail)
                  obtain ⟨q1, q2, q3, q4⟩ := HFIN9.out nq
                  go_wp2
                  refine ⟨by simp, .inl ⟨_, _, rfl, run_takeDeferred q2, ?_⟩⟩
                  refine ⟨by simp, .inl ⟨_, _, rfl, run_takeDeferred q3, ?_⟩⟩
                  refine ⟨.bool true, ?_, rfl, q1.2⟩
                  simp [results, Try.f3, go_sem, q4]
                · have hq0 : ((q : Int) == 0) = false := by rw [beq_eq_false_iff_ne]; omega
                  have hq0' : (q == 0) = false := by rw [beq_eq_false_iff_ne]; omega
                  have hn0 : ¬ nn = 0 := fun h => by
                    have := endOf_nil (ys := wh 0 (dsOf rs) q) (by rw [← HNN.out]; exact h)
                    omega
                  obtain ⟨n', rfl⟩ : ∃ n', nn = n' + 1 := ⟨nn - 1, by omega⟩
                  obtain ⟨e9, d9, hy9, hfe9, _, he9q⟩ := wh_at (p := 0) (ds := dsOf rs) (q := q) (i := n') (by rw [← HNN.out]; omega)
                  have hE9 := endOf_at hy9 HNN.out.symm
                  rw [hE9] at hEq
                  obtain ⟨ge, cpe, hve, hlen9, hmx9, hcell9⟩ := HI9.out.fn.fb.end_at hfe9
                  rw [List.length_map] at hve hlen9
                  rw [hve] at ce
                  have hsub : (((n' + 1 : Nat)) : Int) - 1 = (n' : Int) := by omega
                  have hsub2 : ((n' : Int) + 1) - 1 = (n' : Int) := by omega
                  have hp0 : decide ((0 : Int) < (((n' + 1 : Nat)) : Int)) = true := decide_eq_true (by omega)
                  have hp1 : decide ((0 : Int) < (n' : Int) + 1) = true := decide_eq_true (by omega)
                  have hne : ((e9 : Int) == (q : Int)) = true := by rw [beq_iff_eq]; omega
                  have hne' : (e9 == q) = true := by rw [beq_iff_eq]; omega
                  have hnl9 : n' < rs.length := by omega
                  unfold maxLen at hmx9
                  clear hEq hE9 hy9 hfe9 hve hn0 hq he9q
                  go_wp2_with fail
                  go_quiet (fail)
                  obtain ⟨q1, q2, q3, q4⟩ := HFIN9.out nq
                  go_wp2
                  refine ⟨by simp, .inl ⟨_, _, rfl, run_takeDeferred q2, ?_⟩⟩
                  refine ⟨by simp, .inl ⟨_, _, rfl, run_takeDeferred q3, ?_⟩⟩
                  refine ⟨.bool true, ?_, rfl, q1.2⟩
                  simp [results, Try.f3, go_sem, q4]
          case stop2p =>
            rintro D2 c pre W2 hD2 hpre ⟨⟨rfl, hlen⟩, hI2⟩ hK2
            have hpl := hpre.length_le
            rw [List.length_map, hlen, HWA.out] at hpl
            rw [hlen, Nat.add_sub_cancel] at hI2
            have DSZ : R2 < D2 := by omega
            clear hpre hlen
            refine wpIn_wide.2 ?_
            obtain ⟨cl, cc, cs, cr, ce⟩ := hI2.fn.fb.cells
            have ck : W2.cell? ⟨R2, 0, none⟩ = some (.int .i64 st) := by rw [cell_of_row _ _ _ _ _ _ hI2.kb]; rfl
            have HI2 := Lib.hid hI2
            have hrdb2 : Rd W2 .u8 (some ⟨gb, 0, none⟩) (bOf (dsOf rs)) := by
              have := hI2.fn.fb.br
              rw [HLb.out] at this
              exact rd_own' this
            have KW := Whole_any ((bOf (dsOf rs)).take q) gb 0 cpb (wh 0 (dsOf rs) q) 8 W2 (rd_tk q hrdb2) HC8.out (by rw [hcl]; omega) (by unfold maxLen; omega) (by rw [hcl]; omega) HCH.out
            rw [hcl] at KW
            have HKW := Lib.hid KW
            have HKD := Lib.hid hK2
            clear KW hrdb2 hI2 hK2
            have hm0 : ¬ (rs.length : Int) < (st : Int) := by omega
            have hm2 : ((st : Int) != (st : Int)) = false := by simp
            have hm3 : (st != st) = false := by simp
            go_wp2_with fail
            refine HKW.out.mono ?_
            rintro e w9 ⟨hb9, hpost⟩
            rw [hcl] at hpost
            have HI9 := Lib.hid (HI2.out.below hb9)
            have HD9 := Lib.hid ((hb9.block D2 (Array.getElem?_eq_some_iff.1 HKD.out).1).trans HKD.out)
            clear cl cc cs cr ce ck hb9
            obtain ⟨cl, cc, cs, cr, ce⟩ := HI9.out.fn.fb.cells
            obtain ⟨fc, fs, fr, ff⟩ := HI9.out.fn.fb.fz
            have cnn : w9.cell? ⟨R, 0, none⟩ = some (.int .i64 nn) := by rw [cell_of_row _ _ _ _ _ _ HI9.out.fn.nb]; rfl
            have fin9 : ∀ nq2 : Nat, (fun e w' => e = Ending.returned (.bool true) ∧ Below w.heap.size w w') (.returned (.bool true)) ((((w9.drewN nq2).setCell ⟨w.heap.size + 1 + 1 + 1, 0, none⟩ (.bool true)).putObj D2 (.deferred none)).putObj D (.deferred none)) ∧
                ((w9.drewN nq2).setCell ⟨w.heap.size + 1 + 1 + 1, 0, none⟩ (.bool true)).heap[D2]? = some (.deferred (some [])) ∧
                (((w9.drewN nq2).setCell ⟨w.heap.size + 1 + 1 + 1, 0, none⟩ (.bool true)).putObj D2 (.deferred none)).heap[D]? = some (.deferred (some [])) ∧
                ((((w9.drewN nq2).setCell ⟨w.heap.size + 1 + 1 + 1, 0, none⟩ (.bool true)).putObj D2 (.deferred none)).putObj D (.deferred none)).cell? ⟨w.heap.size + 1 + 1 + 1, 0, none⟩ = some (.bool true) := fun nq2 => law_end HI9.out HD9.out (by omega) nq2
            have HFIN9 := Lib.hid fin9
            clear fin9
            by_cases hEq : endOf (wh 0 (dsOf rs) q) < q
            · rw [if_pos hEq] at hpost
              subst hpost
              have hq0 : ((q : Int) == 0) = false := by rw [beq_eq_false_iff_ne]; omega
              have hq0' : (q == 0) = false := by rw [beq_eq_false_iff_ne]; omega
              by_cases hn0 : nn = 0
              · subst hn0
                clear hEq
                try (exfalso; omega)
                all_goals
                  go_wp2_with fail
                  go_quiet (fail)
                  obtain ⟨q1, q2, q3, q4⟩ := HFIN9.out nq
                  go_wp2
                  refine ⟨by simp, .inl ⟨_, _, rfl, run_takeDeferred q2, ?_⟩⟩
                  refine ⟨by simp, .inl ⟨_, _, rfl, run_takeDeferred q3, ?_⟩⟩
                  refine ⟨.bool true, ?_, rfl, q1.2⟩
                  simp [results, Try.f3, go_sem, q4]
              · obtain ⟨n', rfl⟩ : ∃ n', nn = n' + 1 := ⟨nn - 1, by omega⟩
                obtain ⟨e9, d9, hy9, hfe9, _, _⟩ := wh_at (p := 0) (ds := dsOf rs) (q := q) (i := n') (by rw [← HNN.out]; omega)
                have hE9 := endOf_at hy9 HNN.out.symm
                rw [hE9] at hEq
                obtain ⟨ge, cpe, hve, hlen9, hmx9, hcell9⟩ := HI9.out.fn.fb.end_at hfe9
                rw [List.length_map] at hve hlen9
                rw [hve] at ce
                have hsub : (((n' + 1 : Nat)) : Int) - 1 = (n' : Int) := by omega
                have hsub2 : ((n' : Int) + 1) - 1 = (n' : Int) := by omega
                have hp0 : decide ((0 : Int) < (((n' + 1 : Nat)) : Int)) = true := decide_eq_true (by omega)
                have hp1 : decide ((0 : Int) < (n' : Int) + 1) = true := decide_eq_true (by omega)
                have hne : ((e9 : Int) == (q : Int)) = false := by rw [beq_eq_false_iff_ne]; omega
                have hne' : (e9 == q) = false := by rw [beq_eq_false_iff_ne]; omega
                have hnl9 : n' < rs.length := by omega
                unfold maxLen at hmx9
                clear hEq hE9 hy9 hfe9 hve hn0
                go_wp2_with fail
                go_quiet (fail)
                obtain ⟨q1, q2, q3, q4⟩ := HFIN9.out nq
                go_wp2
                refine ⟨by simp, .inl ⟨_, _, rfl, run_takeDeferred q2, ?_⟩⟩
                refine ⟨by simp, .inl ⟨_, _, rfl, run_takeDeferred q3, ?_⟩⟩
                refine ⟨.bool true, ?_, rfl, q1.2⟩
                simp [results, Try.f3, go_sem, q4]
            · rw [if_neg hEq] at hpost
              obtain ⟨A9, c9, rfl⟩ := hpost
              rw [← HNN.out]
              have hnn9 : ((nn : Int) == (nn : Int)) = true := by simp
              by_cases hq : q = 0
              · have hq0 : ((q : Int) == 0) = true := by simp [hq]
                have hq0' : (q == 0) = true := by simp [hq]
                clear hEq hq
                go_wp2_with fail
                go_quiet (fail)
                obtain ⟨q1, q2, q3, q4⟩ := HFIN9.out nq
                go_wp2
                refine ⟨by simp, .inl ⟨_, _, rfl, run_takeDeferred q2, ?_⟩⟩
                refine ⟨by simp, .inl ⟨_, _, rfl, run_takeDeferred q3, ?_⟩⟩
                refine ⟨.bool true, ?_, rfl, q1.2⟩
                simp [results, Try.f3, go_sem, q4]
              · have hq0 : ((q : Int) == 0) = false := by rw [beq_eq_false_iff_ne]; omega
                have hq0' : (q == 0) = false := by rw [beq_eq_false_iff_ne]; omega
                have hn0 : ¬ nn = 0 := fun h => by
                  have := endOf_nil (ys := wh 0 (dsOf rs) q) (by rw [← HNN.out]; exact h)
                  omega
                obtain ⟨n', rfl⟩ : ∃ n', nn = n' + 1 := ⟨nn - 1, by omega⟩
                obtain ⟨e9, d9, hy9, hfe9, _, he9q⟩ := wh_at (p := 0) (ds := dsOf rs) (q := q) (i := n') (by rw [← HNN.out]; omega)
                have hE9 := endOf_at hy9 HNN.out.symm
                rw [hE9] at hEq
                obtain ⟨ge, cpe, hve, hlen9, hmx9, hcell9⟩ := HI9.out.fn.fb.end_at hfe9
                rw [List.length_map] at hve hlen9
                rw [hve] at ce
                have hsub : (((n' + 1 : Nat)) : Int) - 1 = (n' : Int) := by omega
                have hsub2 : ((n' : Int) + 1) - 1 = (n' : Int) := by omega
                have hp0 : decide ((0 : Int) < (((n' + 1 : Nat)) : Int)) = true := decide_eq_true (by omega)
                have hp1 : decide ((0 : Int) < (n' : Int) + 1) = true := decide_eq_true (by omega)
                have hne : ((e9 : Int) == (q : Int)) = true := by rw [beq_iff_eq]; omega
                have hne' : (e9 == q) = true := by rw [beq_iff_eq]; omega
                have hnl9 : n' < rs.length := by omega
                unfold maxLen at hmx9
                clear hEq hE9 hy9 hfe9 hve hn0 hq he9q
                go_wp2_with fail
                go_quiet (fail)
                obtain ⟨q1, q2, q3, q4⟩ := HFIN9.out nq
                go_wp2
                refine ⟨by simp, .inl ⟨_, _, rfl, run_takeDeferred q2, ?_⟩⟩
                refine ⟨by simp, .inl ⟨_, _, rfl, run_takeDeferred q3, ?_⟩⟩
                refine ⟨.bool true, ?_, rfl, q1.2⟩
                simp [results, Try.f3, go_sem, q4]
        · have g0 : decide ((nn : Int) < (rs.length : Int)) = false := decide_eq_false (by omega)
          have g0' : decide (nn < rs.length) = false := decide_eq_false hlt3
          go_wp2_with fail
          go_quiet (fail)
          obtain ⟨hf1, hf2, hf3, hf4⟩ := HFIN.out nq
          obtain ⟨y0, y1, y2, y3, y4⟩ := hf1.fb.cells
          have HF1 := Lib.hid hf1
          have HF2 := Lib.hid hf2
          have HF3 := Lib.hid hf3
          have HF4 := Lib.hid hf4
          clear hf1 hf2 hf3 hf4
          go_wp2_with fail
          obtain ⟨W7, hW7⟩ : ∃ W7, ((W.drewN nq).setCell ⟨w.heap.size + 1 + 1, 0, none⟩ (.int .i64 st)).alloc (.cells #[.int .i64 0] 3) = W7 := ⟨_, rfl⟩
          have HK7 := Lib.hid (HKA.out nq)
          rw [hW7] at HF1 HF2 HF3 HF4 HK7 ⊢
          obtain ⟨R2, hR2⟩ : ∃ R2, W.heap.size = R2 := ⟨_, rfl⟩
          rw [hR2] at HF2 HF4 hKB ⊢
          clear hW7 hR2 y0 y1 y2 y3 y4 cl cc cs cr cn fc fs fr ff ce2 hst
          refine HK7.out.mono ?_
          rintro e w8 ⟨B2, g8, c8, rfl, hsrc, hq8, hm8, hB8, hg8, hgB8, hB88, hb8⟩
          have hs8 := HF4.out
          have HCH2 := Lib.hid (chain_of (dsOf rs) HD.out [] Lb (Nat.zero_le _) (by have := HLb.out; simp; omega))
          simp only [List.nil_append, List.length_nil, Nat.sub_zero] at HCH2
          rw [List.take_of_length_le (by rw [HLb.out]; exact Nat.le_refl _)] at HCH2
          have HWA := Lib.hid (wh_all (dsOf rs))
          rw [HLb.out, List.length_map] at HWA
          have HFI := Lib.hid (Fi.below (W' := w8) (R2 := R2) (D := D) (j := 0) ⟨HF1.out, HF2.out, HF3.out, hDR, hKB⟩ hb8)
          have HS8 := Lib.hid hsrc
          have HB8 := Lib.hid (bOf_byte rs HR.out)
          clear hsrc hb8 HK7 HF1 HF2 HF3 HKA HFIN
          go_wp2
          refine (wpIn_wide (n := 9)).1 ?_
          refine range_R rfl (enters_of Try.func24 (by kernel_rfl) rfl)
            (iterF_stops B2 (some ⟨g8, 0, none⟩) c8 (bOf (dsOf rs)) (wh 0 (dsOf rs) Lb) 8 HB8.out (by rw [HLb.out]; exact hq8) hm8 (by rw [HLb.out]; omega) HCH2.out (fun e => by cases e) (fun ad e => by cases e; rfl) w8 HS8.out) yr_kb srcF_kt (fun W l o o' h1 h2 => srcF_kb W l o o' h1 h2) (fun _ => rfl)
            (fun pre W => Fi w A cap rs.length T (.slice (some ⟨gb, 0, none⟩) Lb cpb) ve q st (dsOf rs) R nn D R2 pre.length W ∧ pre.length ≤ st)
            (fun c pre W => (c = .exit 4 ∧ pre.length = st + 1) ∧ Fi w A cap rs.length T (.slice (some ⟨gb, 0, none⟩) Lb cpb) ve q st (dsOf rs) R nn D R2 (pre.length - 1) W)
            (OwnFrom.and (Fi.own (by omega) (fun pre => pre.length)) (fun _ _ _ _ h _ _ => h)) (fun c => OwnFrom.and (fun _ _ _ _ h _ _ => h) (Fi.own (by omega) (fun pre => pre.length - 1))) ⟨HFI.out, by simp⟩ ?a2n ?assign2n ?body2n ?done2n ?stop2n
          case assign2n =>
            intro l x W K hK
            gi_wp2
            exact hK
          case body2n =>
            rintro l pre ⟨e, v, d⟩ W ⟨hI, hps⟩ hlt2 hx
            obtain ⟨_, _, cs, _, _⟩ := hI.fn.fb.cells
            have cn : W.cell? ⟨R2, 0, none⟩ = some (.int .i64 pre.length) := by rw [cell_of_row _ _ _ _ _ _ hI.kb]; rfl
            have fn : W.frozen? ⟨R2, 0, none⟩ = false := by simp [World.frozen?, hI.kb]
            have HI2 := Lib.hid hI
            obtain ⟨k, hk⟩ : ∃ k, pre.length = k := ⟨_, rfl⟩
            rw [hk] at cn HI2 hps
            have HK2 := Lib.hid hk
            clear hI hx hk hlt2
            by_cases hks : k = st
            · have d0 : (((k : Nat) : Int) == (st : Int)) = true := by simp [hks]
              have d0' : (k == st) = true := by simp [hks]
              have HKS := Lib.hid hks
              clear hks
              gi_wp2
              refine ⟨KeepsOthers.refl _, ⟨rfl, by rw [List.length_append, HK2.out, HKS.out]; rfl⟩, ?_⟩
              rw [List.length_append, HK2.out]
              exact HI2.out
            · have d0 : (((k : Nat) : Int) == (st : Int)) = false := by rw [beq_eq_false_iff_ne]; omega
              have d0' : (k == st) = false := by rw [beq_eq_false_iff_ne]; omega
              have hkl : k + 1 ≤ st := by omega
              clear hks
              gi_wp2
              refine ⟨KeepsOthers.setCell _ _ _, fun hs => hs.setFar (by omega) (by omega) _, ?_, by rw [List.length_append, HK2.out]; exact hkl⟩
              rw [List.length_append, HK2.out]
              exact HI2.out.set (k + 1)
          case done2n =>
            rintro D2 xs2 W2 hD2 hxs2 ⟨hI2, hle2⟩ hK2
            have hx2 : xs2.length = rs.length := by have h1 : xs2.length = (wh 0 (dsOf rs) Lb).length := by rw [← hxs2]; simp
                                                    rw [h1, HWA.out]
            rw [hx2] at hI2 hle2
            clear hx2 hxs2
            have DSZ : R2 < D2 := by omega
            by_cases hmin : rs.length < st
            · obtain ⟨cl, cc, cs, cr, ce⟩ := hI2.fn.fb.cells
              have ck : W2.cell? ⟨R2, 0, none⟩ = some (.int .i64 rs.length) := by rw [cell_of_row _ _ _ _ _ _ hI2.kb]; rfl
              have HI2 := Lib.hid hI2
              have hrdb2 : Rd W2 .u8 (some ⟨gb, 0, none⟩) (bOf (dsOf rs)) := by
                have := hI2.fn.fb.br
                rw [HLb.out] at this
                exact rd_own' this
              have KW := Whole_any ((bOf (dsOf rs)).take q) gb 0 cpb (wh 0 (dsOf rs) q) 8 W2 (rd_tk q hrdb2) HC8.out (by rw [hcl]; omega) (by unfold maxLen; omega) (by rw [hcl]; omega) HCH.out
              rw [hcl] at KW
              have HKW := Lib.hid KW
              have HKD := Lib.hid hK2
              clear KW hrdb2 hI2 hK2
              have hm1 : (rs.length : Int) < (st : Int) := by omega
              have hm2 : ((rs.length : Int) != (rs.length : Int)) = false := by simp
              have hm3 : (rs.length != rs.length) = false := by simp
              go_wp2_with fail
              refine HKW.out.mono ?_
              rintro e w9 ⟨hb9, hpost⟩
              rw [hcl] at hpost
              have HI9 := Lib.hid (HI2.out.below hb9)
              have HD9 := Lib.hid ((hb9.block D2 (Array.getElem?_eq_some_iff.1 HKD.out).1).trans HKD.out)
              clear cl cc cs cr ce ck hb9
              obtain ⟨cl, cc, cs, cr, ce⟩ := HI9.out.fn.fb.cells
              obtain ⟨fc, fs, fr, ff⟩ := HI9.out.fn.fb.fz
              have cnn : w9.cell? ⟨R, 0, none⟩ = some (.int .i64 nn) := by rw [cell_of_row _ _ _ _ _ _ HI9.out.fn.nb]; rfl
              have fin9 : ∀ nq2 : Nat, (fun e w' => e = Ending.returned (.bool true) ∧ Below w.heap.size w w') (.returned (.bool true)) ((((w9.drewN nq2).setCell ⟨w.heap.size + 1 + 1 + 1, 0, none⟩ (.bool true)).putObj D2 (.deferred none)).putObj D (.deferred none)) ∧
                  ((w9.drewN nq2).setCell ⟨w.heap.size + 1 + 1 + 1, 0, none⟩ (.bool true)).heap[D2]? = some (.deferred (some [])) ∧
                  (((w9.drewN nq2).setCell ⟨w.heap.size + 1 + 1 + 1, 0, none⟩ (.bool true)).putObj D2 (.deferred none)).heap[D]? = some (.deferred (some [])) ∧
                  ((((w9.drewN nq2).setCell ⟨w.heap.size + 1 + 1 + 1, 0, none⟩ (.bool true)).putObj D2 (.deferred none)).putObj D (.deferred none)).cell? ⟨w.heap.size + 1 + 1 + 1, 0, none⟩ = some (.bool true) := fun nq2 => law_end HI9.out HD9.out (by omega) nq2
              have HFIN9 := Lib.hid fin9
              clear fin9
              by_cases hEq : endOf (wh 0 (dsOf rs) q) < q
              · rw [if_pos hEq] at hpost
                subst hpost
                have hq0 : ((q : Int) == 0) = false := by rw [beq_eq_false_iff_ne]; omega
                have hq0' : (q == 0) = false := by rw [beq_eq_false_iff_ne]; omega
                by_cases hn0 : nn = 0
                · subst hn0
                  clear hEq
                  try (exfalso; omega)
                  all_goals
                    go_wp2_with fail
                    go_quiet (fail)
                    obtain ⟨q1, q2, q3, q4⟩ := HFIN9.out nq
                    go_wp2
                    refine ⟨by simp, .inl ⟨_, _, rfl, run_takeDeferred q2, ?_⟩⟩
                    refine ⟨by simp, .inl ⟨_, _, rfl, run_takeDeferred q3, ?_⟩⟩
                    refine ⟨.bool true, ?_, rfl, q1.2⟩
                    simp [results, Try.f3, go_sem, q4]
                · obtain ⟨n', rfl⟩ : ∃ n', nn = n' + 1 := ⟨nn - 1, by omega⟩
                  obtain ⟨e9, d9, hy9, hfe9, _, _⟩ := wh_at (p := 0) (ds := dsOf rs) (q := q) (i := n') (by rw [← HNN.out]; omega)
                  have hE9 := endOf_at hy9 HNN.out.symm
                  rw [hE9] at hEq
                  obtain ⟨ge, cpe, hve, hlen9, hmx9, hcell9⟩ := HI9.out.fn.fb.end_at hfe9
                  rw [List.length_map] at hve hlen9
                  rw [hve] at ce
                  have hsub : (((n' + 1 : Nat)) : Int) - 1 = (n' : Int) := by omega
                  have hsub2 : ((n' : Int) + 1) - 1 = (n' : Int) := by omega
                  have hp0 : decide ((0 : Int) < (((n' + 1 : Nat)) : Int)) = true := decide_eq_true (by omega)
                  have hp1 : decide ((0 : Int) < (n' : Int) + 1) = true := decide_eq_true (by omega)
                  have hne : ((e9 : Int) == (q : Int)) = false := by rw [beq_eq_false_iff_ne]; omega
                  have hne' : (e9 == q) = false := by rw [beq_eq_false_iff_ne]; omega
                  have hnl9 : n' < rs.length := by omega
                  unfold maxLen at hmx9
                  clear hEq hE9 hy9 hfe9 hve hn0
                  go_wp2_with fail
                  go_quiet (fail)
                  obtain ⟨q1, q2, q3, q4⟩ := HFIN9.out nq
                  go_wp2
                  refine ⟨by simp, .inl ⟨_, _, rfl, run_takeDeferred q2, ?_⟩⟩
                  refine ⟨by simp, .inl ⟨_, _, rfl, run_takeDeferred q3, ?_⟩⟩
                  refine ⟨.bool true, ?_, rfl, q1.2⟩
                  simp [results, Try.f3, go_sem, q4]
              · rw [if_neg hEq] at hpost
                obtain ⟨A9, c9, rfl⟩ := hpost
                rw [← HNN.out]
                have hnn9 : ((nn : Int) == (nn : Int)) = true := by simp
                by_cases hq : q = 0
                · have hq0 : ((q : Int) == 0) = true := by simp [hq]
                  have hq0' : (q == 0) = true := by simp [hq]
                  clear hEq hq
                  go_wp2_with fail
                  go_quiet (fail)
                  obtain ⟨q1, q2, q3, q4⟩ := HFIN9.out nq
                  go_wp2
                  refine ⟨by simp, .inl ⟨_, _, rfl, run_takeDeferred q2, ?_⟩⟩
                  refine ⟨by simp, .inl ⟨_, _, rfl, run_takeDeferred q3, ?_⟩⟩
                  refine ⟨.bool true, ?_, rfl, q1.2⟩
                  simp [results, Try.f3, go_sem, q4]
                · have hq0 : ((q : Int) == 0) = false := by rw [beq_eq_false_iff_ne]; omega
                  have hq0' : (q == 0) = false := by rw [beq_eq_false_iff_ne]; omega
                  have hn0 : ¬ nn = 0 := fun h => by
                    have := endOf_nil (ys := wh 0 (dsOf rs) q) (by rw [← HNN.out]; exact h)
                    omega
                  obtain ⟨n', rfl⟩ : ∃ n', nn = n' + 1 := ⟨nn - 1, by omega⟩
                  obtain ⟨e9, d9, hy9, hfe9, _, he9q⟩ := wh_at (p := 0) (ds := dsOf rs) (q := q) (i := n') (by rw [← HNN.out]; omega)
                  have hE9 := endOf_at hy9 HNN.out.symm
                  rw [hE9] at hEq
                  obtain ⟨ge, cpe, hve, hlen9, hmx9, hcell9⟩ := HI9.out.fn.fb.end_at hfe9
                  rw [List.length_map] at hve hlen9
                  rw [hve] at ce
                  have hsub : (((n' + 1 : Nat)) : Int) - 1 = (n' : Int) := by omega
                  have hsub2 : ((n' : Int) + 1) - 1 = (n' : Int) := by omega
                  have hp0 : decide ((0 : Int) < (((n' + 1 : Nat)) : Int)) = true := decide_eq_true (by omega)
                  have hp1 : decide ((0 : Int) < (n' : Int) + 1) = true := decide_eq_true (by omega)
                  have hne : ((e9 : Int) == (q : Int)) = true := by rw [beq_iff_eq]; omega
                  have hne' : (e9 == q) = true := by rw [beq_iff_eq]; omega
                  have hnl9 : n' < rs.length := by omega
                  unfold maxLen at hmx9
                  clear hEq hE9 hy9 hfe9 hve hn0 hq he9q
                  go_wp2_with fail
                  go_quiet (fail)
                  obtain ⟨q1, q2, q3, q4⟩ := HFIN9.out nq
                  go_wp2
                  refine ⟨by simp, .inl ⟨_, _, rfl, run_takeDeferred q2, ?_⟩⟩
                  refine ⟨by simp, .inl ⟨_, _, rfl, run_takeDeferred q3, ?_⟩⟩
                  refine ⟨.bool true, ?_, rfl, q1.2⟩
                  simp [results, Try.f3, go_sem, q4]
            · obtain ⟨cl, cc, cs, cr, ce⟩ := hI2.fn.fb.cells
              have ck : W2.cell? ⟨R2, 0, none⟩ = some (.int .i64 rs.length) := by rw [cell_of_row _ _ _ _ _ _ hI2.kb]; rfl
              have HI2 := Lib.hid hI2
              have hrdb2 : Rd W2 .u8 (some ⟨gb, 0, none⟩) (bOf (dsOf rs)) := by
                have := hI2.fn.fb.br
                rw [HLb.out] at this
                exact rd_own' this
              have KW := Whole_any ((bOf (dsOf rs)).take q) gb 0 cpb (wh 0 (dsOf rs) q) 8 W2 (rd_tk q hrdb2) HC8.out (by rw [hcl]; omega) (by unfold maxLen; omega) (by rw [hcl]; omega) HCH.out
              rw [hcl] at KW
              have HKW := Lib.hid KW
              have HKD := Lib.hid hK2
              clear KW hrdb2 hI2 hK2
              have hm0 : ¬ (rs.length : Int) < (st : Int) := by omega
              have hm2 : ((rs.length : Int) != (st : Int)) = false := by simp; omega
              have hm3 : (rs.length != st) = false := by simp; omega
              go_wp2_with fail
              refine HKW.out.mono ?_
              rintro e w9 ⟨hb9, hpost⟩
              rw [hcl] at hpost
              have HI9 := Lib.hid (HI2.out.below hb9)
              have HD9 := Lib.hid ((hb9.block D2 (Array.getElem?_eq_some_iff.1 HKD.out).1).trans HKD.out)
              clear cl cc cs cr ce ck hb9
              obtain ⟨cl, cc, cs, cr, ce⟩ := HI9.out.fn.fb.cells
              obtain ⟨fc, fs, fr, ff⟩ := HI9.out.fn.fb.fz
              have cnn : w9.cell? ⟨R, 0, none⟩ = some (.int .i64 nn) := by rw [cell_of_row _ _ _ _ _ _ HI9.out.fn.nb]; rfl
              have fin9 : ∀ nq2 : Nat, (fun e w' => e = Ending.returned (.bool true) ∧ Below w.heap.size w w') (.returned (.bool true)) ((((w9.drewN nq2).setCell ⟨w.heap.size + 1 + 1 + 1, 0, none⟩ (.bool true)).putObj D2 (.deferred none)).putObj D (.deferred none)) ∧
                  ((w9.drewN nq2).setCell ⟨w.heap.size + 1 + 1 + 1, 0, none⟩ (.bool true)).heap[D2]? = some (.deferred (some [])) ∧
                  (((w9.drewN nq2).setCell ⟨w.heap.size + 1 + 1 + 1, 0, none⟩ (.bool true)).putObj D2 (.deferred none)).heap[D]? = some (.deferred (some [])) ∧
                  ((((w9.drewN nq2).setCell ⟨w.heap.size + 1 + 1 + 1, 0, none⟩ (.bool true)).putObj D2 (.deferred none)).putObj D (.deferred none)).cell? ⟨w.heap.size + 1 + 1 + 1, 0, none⟩ = some (.bool true) := fun nq2 => law_end HI9.out HD9.out (by omega) nq2
              have HFIN9 := Lib.hid fin9
              clear fin9
              by_cases hEq : endOf (wh 0 (dsOf rs) q) < q
              · rw [if_pos hEq] at hpost
                subst hpost
                have hq0 : ((q : Int) == 0) = false := by rw [beq_eq_false_iff_ne]; omega
                have hq0' : (q == 0) = false := by rw [beq_eq_false_iff_ne]; omega
                by_cases hn0 : nn = 0
                · subst hn0
                  clear hEq
                  try (exfalso; omega)
                  all_goals
                    go_wp2_with fail
                    go_quiet (fail)
                    obtain ⟨q1, q2, q3, q4⟩ := HFIN9.out nq
                    go_wp2
                    refine ⟨by simp, .inl ⟨_, _, rfl, run_takeDeferred q2, ?_⟩⟩
                    refine ⟨by simp, .inl ⟨_, _, rfl, run_takeDeferred q3, ?_⟩⟩
                    refine ⟨.bool true, ?_, rfl, q1.2⟩
                    simp [results, Try.f3, go_sem, q4]
                · obtain ⟨n', rfl⟩ : ∃ n', nn = n' + 1 := ⟨nn - 1, by omega⟩
                  obtain ⟨e9, d9, hy9, hfe9, _, _⟩ := wh_at (p := 0) (ds := dsOf rs) (q := q) (i := n') (by rw [← HNN.out]; omega)
                  have hE9 := endOf_at hy9 HNN.out.symm
                  rw [hE9] at hEq
                  obtain ⟨ge, cpe, hve, hlen9, hmx9, hcell9⟩ := HI9.out.fn.fb.end_at hfe9
                  rw [List.length_map] at hve hlen9
                  rw [hve] at ce
                  have hsub : (((n' + 1 : Nat)) : Int) - 1 = (n' : Int) := by omega
                  have hsub2 : ((n' : Int) + 1) - 1 = (n' : Int) := by omega
                  have hp0 : decide ((0 : Int) < (((n' + 1 : Nat)) : Int)) = true := decide_eq_true (by omega)
                  have hp1 : decide ((0 : Int) < (n' : Int) + 1) = true := decide_eq_true (by omega)
                  have hne : ((e9 : Int) == (q : Int)) = false := by rw [beq_eq_false_iff_ne]; omega
                  have hne' : (e9 == q) = false := by rw [beq_eq_false_iff_ne]; omega
                  have hnl9 : n' < rs.length := by omega
                  unfold maxLen at hmx9
                  clear hEq hE9 hy9 hfe9 hve hn0
                  go_wp2_with fail
                  go_quiet (fail)
                  obtain ⟨q1, q2, q3, q4⟩ := HFIN9.out nq
                  go_wp2
                  refine ⟨by simp, .inl ⟨_, _, rfl, run_takeDeferred q2, ?_⟩⟩
                  refine ⟨by simp, .inl ⟨_, _, rfl, run_takeDeferred q3, ?_⟩⟩
                  refine ⟨.bool true, ?_, rfl, q1.2⟩
                  simp [results, Try.f3, go_sem, q4]
              · rw [if_neg hEq] at hpost
                obtain ⟨A9, c9, rfl⟩ := hpost
                rw [← HNN.out]
                have hnn9 : ((nn : Int) == (nn : Int)) = true := by simp
                by_cases hq : q = 0
                · have hq0 : ((q : Int) == 0) = true := by simp [hq]
                  have hq0' : (q == 0) = true := by simp [hq]
                  clear hEq hq
                  go_wp2_with fail
                  go_quiet (fail)
                  obtain ⟨q1, q2, q3, q4⟩ := HFIN9.out nq
                  go_wp2
                  refine ⟨by simp, .inl ⟨_, _, rfl, run_takeDeferred q2, ?_⟩⟩
                  refine ⟨by simp, .inl ⟨_, _, rfl, run_takeDeferred q3, ?_⟩⟩
                  refine ⟨.bool true, ?_, rfl, q1.2⟩
                  simp [results, Try.f3, go_sem, q4]
                · have hq0 : ((q : Int) == 0) = false := by rw [beq_eq_false_iff_ne]; omega
                  have hq0' : (q == 0) = false := by rw [beq_eq_false_iff_ne]; omega
                  have hn0 : ¬ nn = 0 := fun h => by
                    have := endOf_nil (ys := wh 0 (dsOf rs) q) (by rw [← HNN.out]; exact h)
                    omega
                  obtain ⟨n', rfl⟩ : ∃ n', nn = n' + 1 := ⟨nn - 1, by omega⟩
                  obtain ⟨e9, d9, hy9, hfe9, _, he9q⟩ := wh_at (p := 0) (ds := dsOf rs) (q := q) (i := n') (by rw [← HNN.out]; omega)
                  have hE9 := endOf_at hy9 HNN.out.symm
                  rw [hE9] at hEq
                  obtain ⟨ge, cpe, hve, hlen9, hmx9, hcell9⟩ := HI9.out.fn.fb.end_at hfe9
                  rw [List.length_map] at hve hlen9
                  rw [hve] at ce
                  have hsub : (((n' + 1 : Nat)) : Int) - 1 = (n' : Int) := by omega
                  have hsub2 : ((n' : Int) + 1) - 1 = (n' : Int) := by omega
                  have hp0 : decide ((0 : Int) < (((n' + 1 : Nat)) : Int)) = true := decide_eq_true (by omega)
                  have hp1 : decide ((0 : Int) < (n' : Int) + 1) = true := decide_eq_true (by omega)
                  have hne : ((e9 : Int) == (q : Int)) = true := by rw [beq_iff_eq]; omega
                  have hne' : (e9 == q) = true := by rw [beq_iff_eq]; omega
                  have hnl9 : n' < rs.length := by omega
                  unfold maxLen at hmx9
                  clear hEq hE9 hy9 hfe9 hve hn0 hq he9q
                  go_wp2_with fail
                  go_quiet (fail)
                  obtain ⟨q1, q2, q3, q4⟩ := HFIN9.out nq
                  go_wp2
                  refine ⟨by simp, .inl ⟨_, _, rfl, run_takeDeferred q2, ?_⟩⟩
                  refine ⟨by simp, .inl ⟨_, _, rfl, run_takeDeferred q3, ?_⟩⟩
                  refine ⟨.bool true, ?_, rfl, q1.2⟩
                  simp [results, Try.f3, go_sem, q4]
          case stop2n =>
            rintro D2 c pre W2 hD2 hpre ⟨⟨rfl, hlen⟩, hI2⟩ hK2
            have hpl := hpre.length_le
            rw [List.length_map, hlen, HWA.out] at hpl
            rw [hlen, Nat.add_sub_cancel] at hI2
            have DSZ : R2 < D2 := by omega
            clear hpre hlen
            refine wpIn_wide.2 ?_
            obtain ⟨cl, cc, cs, cr, ce⟩ := hI2.fn.fb.cells
            have ck : W2.cell? ⟨R2, 0, none⟩ = some (.int .i64 st) := by rw [cell_of_row _ _ _ _ _ _ hI2.kb]; rfl
            have HI2 := Lib.hid hI2
            have hrdb2 : Rd W2 .u8 (some ⟨gb, 0, none⟩) (bOf (dsOf rs)) := by
              have := hI2.fn.fb.br
              rw [HLb.out] at this
              exact rd_own' this
            have KW := Whole_any ((bOf (dsOf rs)).take q) gb 0 cpb (wh 0 (dsOf rs) q) 8 W2 (rd_tk q hrdb2) HC8.out (by rw [hcl]; omega) (by unfold maxLen; omega) (by rw [hcl]; omega) HCH.out
            rw [hcl] at KW
            have HKW := Lib.hid KW
            have HKD := Lib.hid hK2
            clear KW hrdb2 hI2 hK2
            have hm0 : ¬ (rs.length : Int) < (st : Int) := by omega
            have hm2 : ((st : Int) != (st : Int)) = false := by simp
            have hm3 : (st != st) = false := by simp
            go_wp2_with fail
            refine HKW.out.mono ?_
            rintro e w9 ⟨hb9, hpost⟩
            rw [hcl] at hpost
            have HI9 := Lib.hid (HI2.out.below hb9)
            have HD9 := Lib.hid ((hb9.block D2 (Array.getElem?_eq_some_iff.1 HKD.out).1).trans HKD.out)
            clear cl cc cs cr ce ck hb9
            obtain ⟨cl, cc, cs, cr, ce⟩ := HI9.out.fn.fb.cells
            obtain ⟨fc, fs, fr, ff⟩ := HI9.out.fn.fb.fz
            have cnn : w9.cell? ⟨R, 0, none⟩ = some (.int .i64 nn) := by rw [cell_of_row _ _ _ _ _ _ HI9.out.fn.nb]; rfl
            have fin9 : ∀ nq2 : Nat, (fun e w' => e = Ending.returned (.bool true) ∧ Below w.heap.size w w') (.returned (.bool true)) ((((w9.drewN nq2).setCell ⟨w.heap.size + 1 + 1 + 1, 0, none⟩ (.bool true)).putObj D2 (.deferred none)).putObj D (.deferred none)) ∧
                ((w9.drewN nq2).setCell ⟨w.heap.size + 1 + 1 + 1, 0, none⟩ (.bool true)).heap[D2]? = some (.deferred (some [])) ∧
                (((w9.drewN nq2).setCell ⟨w.heap.size + 1 + 1 + 1, 0, none⟩ (.bool true)).putObj D2 (.deferred none)).heap[D]? = some (.deferred (some [])) ∧
                ((((w9.drewN nq2).setCell ⟨w.heap.size + 1 + 1 + 1, 0, none⟩ (.bool true)).putObj D2 (.deferred none)).putObj D (.deferred none)).cell? ⟨w.heap.size + 1 + 1 + 1, 0, none⟩ = some (.bool true) := fun nq2 => law_end HI9.out HD9.out (by omega) nq2
            have HFIN9 := Lib.hid fin9
            clear fin9
            by_cases hEq : endOf (wh 0 (dsOf rs) q) < q
            · rw [if_pos hEq] at hpost
              subst hpost
              have hq0 : ((q : Int) == 0) = false := by rw [beq_eq_false_iff_ne]; omega
              have hq0' : (q == 0) = false := by rw [beq_eq_false_iff_ne]; omega
              by_cases hn0 : nn = 0
              · subst hn0
                clear hEq
                try (exfalso; omega)
                all_goals
                  go_wp2_with fail
                  go_quiet (fail)
                  obtain ⟨q1, q2, q3, q4⟩ := HFIN9.out nq
                  go_wp2
                  refine ⟨by simp, .inl ⟨_, _, rfl, run_takeDeferred q2, ?_⟩⟩
                  refine ⟨by simp, .inl ⟨_, _, rfl, run_takeDeferred q3, ?_⟩⟩
                  refine ⟨.bool true, ?_, rfl, q1.2⟩
                  simp [results, Try.f3, go_sem, q4]
              · obtain ⟨n', rfl⟩ : ∃ n', nn = n' + 1 := ⟨nn - 1, by omega⟩
                obtain ⟨e9, d9, hy9, hfe9, _, _⟩ := wh_at (p := 0) (ds := dsOf rs) (q := q) (i := n') (by rw [← HNN.out]; omega)
                have hE9 := endOf_at hy9 HNN.out.symm
                rw [hE9] at hEq
                obtain ⟨ge, cpe, hve, hlen9, hmx9, hcell9⟩ := HI9.out.fn.fb.end_at hfe9
                rw [List.length_map] at hve hlen9
                rw [hve] at ce
                have hsub : (((n' + 1 : Nat)) : Int) - 1 = (n' : Int) := by omega
                have hsub2 : ((n' : Int) + 1) - 1 = (n' : Int) := by omega
                have hp0 : decide ((0 : Int) < (((n' + 1 : Nat)) : Int)) = true := decide_eq_true (by omega)
                have hp1 : decide ((0 : Int) < (n' : Int) + 1) = true := decide_eq_true (by omega)
                have hne : ((e9 : Int) == (q : Int)) = false := by rw [beq_eq_false_iff_ne]; omega
                have hne' : (e9 == q) = false := by rw [beq_eq_false_iff_ne]; omega
                have hnl9 : n' < rs.length := by omega
                unfold maxLen at hmx9
                clear hEq hE9 hy9 hfe9 hve hn0
                go_wp2_with fail
                go_quiet (fail)
                obtain ⟨q1, q2, q3, q4⟩ := HFIN9.out nq
                go_wp2
                refine ⟨by simp, .inl ⟨_, _, rfl, run_takeDeferred q2, ?_⟩⟩
                refine ⟨by simp, .inl ⟨_, _, rfl, run_takeDeferred q3, ?_⟩⟩
                refine ⟨.bool true, ?_, rfl, q1.2⟩
                simp [results, Try.f3, go_sem, q4]
            · rw [if_neg hEq] at hpost
              obtain ⟨A9, c9, rfl⟩ := hpost
              rw [← HNN.out]
              have hnn9 : ((nn : Int) == (nn : Int)) = true := by simp
              by_cases hq : q = 0
              · have hq0 : ((q : Int) == 0) = true := by simp [hq]
                have hq0' : (q == 0) = true := by simp [hq]
                clear hEq hq
                go_wp2_with fail
                go_quiet (fail)
                obtain ⟨q1, q2, q3, q4⟩ := HFIN9.out nq
                go_wp2
                refine ⟨by simp, .inl ⟨_, _, rfl, run_takeDeferred q2, ?_⟩⟩
                refine ⟨by simp, .inl ⟨_, _, rfl, run_takeDeferred q3, ?_⟩⟩
                refine ⟨.bool true, ?_, rfl, q1.2⟩
                simp [results, Try.f3, go_sem, q4]
              · have hq0 : ((q : Int) == 0) = false := by rw [beq_eq_false_iff_ne]; omega
                have hq0' : (q == 0) = false := by rw [beq_eq_false_iff_ne]; omega
                have hn0 : ¬ nn = 0 := fun h => by
                  have := endOf_nil (ys := wh 0 (dsOf rs) q) (by rw [← HNN.out]; exact h)
                  omega
                obtain ⟨n', rfl⟩ : ∃ n', nn = n' + 1 := ⟨nn - 1, by omega⟩
                obtain ⟨e9, d9, hy9, hfe9, _, he9q⟩ := wh_at (p := 0) (ds := dsOf rs) (q := q) (i := n') (by rw [← HNN.out]; omega)
                have hE9 := endOf_at hy9 HNN.out.symm
                rw [hE9] at hEq
                obtain ⟨ge, cpe, hve, hlen9, hmx9, hcell9⟩ := HI9.out.fn.fb.end_at hfe9
                rw [List.length_map] at hve hlen9
                rw [hve] at ce
                have hsub : (((n' + 1 : Nat)) : Int) - 1 = (n' : Int) := by omega
                have hsub2 : ((n' : Int) + 1) - 1 = (n' : Int) := by omega
                have hp0 : decide ((0 : Int) < (((n' + 1 : Nat)) : Int)) = true := decide_eq_true (by omega)
                have hp1 : decide ((0 : Int) < (n' : Int) + 1) = true := decide_eq_true (by omega)
                have hne : ((e9 : Int) == (q : Int)) = true := by rw [beq_iff_eq]; omega
                have hne' : (e9 == q) = true := by rw [beq_iff_eq]; omega
                have hnl9 : n' < rs.length := by omega
                unfold maxLen at hmx9
                clear hEq hE9 hy9 hfe9 hve hn0 hq he9q
                go_wp2_with fail
                go_quiet (fail)
                obtain ⟨q1, q2, q3, q4⟩ := HFIN9.out nq
                go_wp2
                refine ⟨by simp, .inl ⟨_, _, rfl, run_takeDeferred q2, ?_⟩⟩
                refine ⟨by simp, .inl ⟨_, _, rfl, run_takeDeferred q3, ?_⟩⟩
                refine ⟨.bool true, ?_, rfl, q1.2⟩
                simp [results, Try.f3, go_sem, q4]
end Go.Proofs.Ytanbbomdidefjaa
