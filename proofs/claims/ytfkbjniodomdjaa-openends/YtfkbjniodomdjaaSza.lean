/- The law OpenEnds, walked. -/
import Derived.Test.YtfkbjniodomdjaaSz
import Derived.Test.YtfkbjniodomdjaaSx2
import Derived.Test.YtfkbjniodomdjaaSv
import Derived.Test.YtfkbjniodomdjaaSn
import Derived.Deep.DeepCutAuto
import Derived.Deep.CutBlock
namespace Go.Proofs.Ytfkbjniodomdjaa
open Go.RowKit Go.Shelf Go.Lib

set_option maxRecDepth 100000 in
set_option maxHeartbeats 4000000 in
theorem openEnds_short (nm : List Nam) (A : Option Addr) (cap : Nat) (a b : ByteArray) (all : Bool) (w : World) (hr : RdM w A nm) (hl : nm.length ≤ 30) :
    Calls Try.prog 9 #[.slice A nm.length cap, .string a, .string b, .bool all] w fun e w' => e = .returned (.bool true) ∧ Below w.heap.size w w' := by
  obtain ⟨W0, hW0⟩ : ∃ W0, (w.alloc (.cells #[.string a] 9)).alloc (.cells #[.string b] 9) = W0 := ⟨_, rfl⟩
  have hb0 : Below w.heap.size w W0 := by rw [← hW0]; exact ((Below.refl _ w).alloc (Nat.le_refl _) _).alloc (by simp) _
  have b0 : W0.heap[w.heap.size]? = some (.cells #[.string a] 9 (0, 0)) := by
    rw [← hW0, Below.heap_alloc _ _ _ (by simp)]
    exact heap_alloc_new w _
  have b1 : W0.heap[w.heap.size + 1]? = some (.cells #[.string b] 9 (0, 0)) := by
    rw [← hW0]
    have := heap_alloc_new (w.alloc (.cells #[.string a] 9)) (.cells #[.string b] 9)
    simpa using this
  have hs0 : W0.heap.size = w.heap.size + 2 := by rw [← hW0]; simp
  have KH := Lib.hid (head11_any W0)
  have HR := Lib.hid hr
  have HB0 := Lib.hid hb0
  have HS0 := Lib.hid hs0
  have HX0 := Lib.hid b0
  have HX1 := Lib.hid b1
  have d30 : decide ((30 : Int) < (nm.length : Int)) = false := decide_eq_false (by omega)
  clear hr hb0 b0 b1 hs0
  subst hW0
  go_enter Try.func9, Try.ntmps9
  go_wp2_with fail
  refine KH.out.mono ?_
  rintro e w1 ⟨rfl, hb1⟩
  -- what holds in whatever world that comes
  have far : ∀ X, Below ((w.alloc (.cells #[.string a] 9)).alloc (.cells #[.string b] 9)).heap.size ((w.alloc (.cells #[.string a] 9)).alloc (.cells #[.string b] 9)) X → Below w.heap.size w X ∧ X.heap[w.heap.size]? = some (.cells #[.string a] 9 (0, 0)) ∧ X.heap[w.heap.size + 1]? = some (.cells #[.string b] 9 (0, 0)) ∧ RdM X A nm := by
    intro X hX
    have h1 : Below w.heap.size w X := HB0.out.trans (hX.mono HB0.out.size)
    exact ⟨h1, (hX.block _ (by rw [HS0.out]; omega)).trans HX0.out, (hX.block _ (by rw [HS0.out]; omega)).trans HX1.out, HR.out.below h1⟩
  have FAR := Lib.hid far
  obtain ⟨W0, hW0⟩ : ∃ W0, (w.alloc (.cells #[.string a] 9)).alloc (.cells #[.string b] 9) = W0 := ⟨_, rfl⟩
  rw [hW0] at hb1 FAR
  have HB1 := Lib.hid hb1
  clear far hb1 hW0 KH HB0 HS0 HX0 HX1
  obtain ⟨P, hP⟩ : ∃ P, nm.map (isO a b) = P := ⟨_, rfl⟩
  have HP := Lib.hid hP
  have HPL := Lib.hid (show P.length = nm.length by rw [← hP]; simp)
  clear hP
  go_wp2
  go_loopw [10, 11, 27] (fun uv bv kv wr => ∃ k : Nat, k ≤ nm.length ∧ kv = .int .i64 k ∧ uv = .int .i64 (cU (P.take k).reverse) ∧ bv = .int .i64 (cB (P.take k).reverse) ∧ Hid (Below W0.heap.size W0 wr)) (fun _ _ kv _ => nm.length - (intOf kv).toNat)
  case atStart => exact ⟨0, Nat.zero_le _, rfl, rfl, rfl, HB1⟩
  case round =>
    obtain ⟨k, hk, rfl, rfl, rfl, HB⟩ := hrel
    by_cases hlt : k < nm.length
    · obtain ⟨x, hx⟩ : ∃ x, nm[k]? = some x := ⟨_, List.getElem?_eq_getElem hlt⟩
      obtain ⟨hbX, x0, x1, hrX⟩ := FAR.out wr HB.out
      obtain ⟨g, off, rfl, hgl, c0, c1⟩ := hrX.at_ hx
      have hw : Below wr.heap.size wr (wr.alloc (.cells #[.string x.1, .int .i64 x.2] 67)) := (Below.refl _ wr).alloc (Nat.le_refl _) _
      have HBn := Lib.hid (HB.out.trans (hw.mono HB.out.size))
      have KI := Lib.hid (isO_any a b x w.heap.size (w.heap.size + 1) _ (FAR.out _ HBn.out).2.1 (FAR.out _ HBn.out).2.2.1)
      have htk : P.take (k + 1) = P.take k ++ [isO a b x] := by
        rw [List.take_add_one, ← HP.out, List.getElem?_map, hx]; rfl
      have hkl : (P.take k).length = k := by have := HPL.out; simp; omega
      have HU := Lib.hid (cU_snoc (P.take k) (isO a b x))
      have HV := Lib.hid (cB_snoc (P.take k) (isO a b x))
      have HTK := Lib.hid htk
      have HKL := Lib.hid hkl
      clear hx hbX x0 x1 hrX hw htk hkl
      cases hq : isO a b x with
      | true =>
        rw [hq] at KI HU HV HTK
        clear hq
        go_wp2_with fail
        refine KI.out.mono ?_
        rintro e w2 ⟨rfl, hb2⟩
        have HB2 := Lib.hid (HBn.out.trans (hb2.mono HBn.out.size))
        clear hb2
        go_wp2
        go_roundw
        case rel => exact ⟨k + 1, by omega, by go_num, by rw [HTK.out, HU.out, HKL.out]; rfl, by rw [HTK.out, HV.out, HKL.out]; rfl, HB2⟩
        case measure => simp [intOf]; omega
      | false =>
        rw [hq] at KI HU HV HTK
        clear hq
        go_wp2_with fail
        refine KI.out.mono ?_
        rintro e w2 ⟨rfl, hb2⟩
        have HB2 := Lib.hid (HBn.out.trans (hb2.mono HBn.out.size))
        clear hb2
        go_wp2
        go_roundw
        case rel => exact ⟨k + 1, by omega, by go_num, by rw [HTK.out, HU.out]; rfl, by rw [HTK.out, HV.out]; rfl, HB2⟩
        case measure => simp [intOf]; omega
    · obtain rfl : k = nm.length := by omega
      have htk : P.take nm.length = P := List.take_of_length_le (by have := HPL.out; omega)
      rw [htk]
      obtain ⟨U, hU⟩ : ∃ U, cU P.reverse = U := ⟨_, rfl⟩
      obtain ⟨B, hB⟩ : ∃ B, cB P.reverse = B := ⟨_, rfl⟩
      rw [hU, hB]
      have HU := Lib.hid hU
      have HBB := Lib.hid hB
      clear htk hU hB hlt hk
      obtain ⟨-, -, -, hrX⟩ := FAR.out wr HB.out
      have KM1 := Lib.hid (made_gen nm A cap wr hrX (by omega))
      clear hrX
      go_wp2_with fail
      refine KM1.out.mono ?_
      rintro e w2 ⟨T1, D1, v1, va1, ns1, xs1, rfl, hM, hMR, hb2⟩
      obtain ⟨-, y0, y1, -⟩ := FAR.out w2 (HB.out.trans (hb2.mono HB.out.size))
      have hw3 : Below w2.heap.size w2 (w2.alloc (.cells #[.string a, .string b] 9)) := (Below.refl _ w2).alloc (Nat.le_refl _) _
      have KU := Lib.hid (until_any (zs := [a, b]) (cap := 2) (hM.doc.below hw3) (hM.st.below hw3) (fun k h1 h2 => hM.ap k h2 h1) (rdT_new w2 [a, b] 9) (fun ad e => by cases e; exact fun h => by have := hM.st.in_ _ h; simp only at this; omega) (by simp) (by rw [hMR.1]; omega))
      have HM := Lib.hid hM
      have HMR := Lib.hid hMR
      have HB2 := Lib.hid (HB.out.trans (hb2.mono HB.out.size))
      have HW3 := Lib.hid hw3
      have HB2R := Lib.hid hb2
      have z0 : w2.cell? ⟨w.heap.size, 0, none⟩ = some (.string a) := by rw [cell_of_row _ _ _ _ _ _ y0]; rfl
      have z1 : w2.cell? ⟨w.heap.size + 1, 0, none⟩ = some (.string b) := by rw [cell_of_row _ _ _ _ _ _ y1]; rfl
      clear y0 y1 hw3 hM hMR hb2
      simp only [List.length_cons, List.length_nil, Nat.zero_add, Nat.reduceAdd] at KU
      go_wp2_with fail
      refine KU.out.mono ?_
      rintro e w3 ⟨rfl, vk, hd, hs, hf, _⟩
      have hb3 : Below wr.heap.size wr w3 := (HB2R.out.trans (HW3.out.mono HB2R.out.size)).trans (hf.toBelow (Nat.le_trans HB2R.out.size HW3.out.size) HM.out.ge)
      obtain ⟨A3, c3, rfl, _⟩ := hs.rd.form
      have hlen := until_len a b HMR.out
      rw [HP.out, HU.out] at hlen
      have S1 := Lib.hid (fun X (h : Below w3.heap.size w3 X) => (hs.below h).cells.2.1)
      rw [hlen] at S1
      obtain ⟨-, -, -, hrX⟩ := FAR.out w3 (HB.out.trans (hb3.mono HB.out.size))
      have KM2 := Lib.hid (made_gen nm A cap w3 hrX (by omega))
      have HB3 := Lib.hid (HB.out.trans (hb3.mono HB.out.size))
      clear hrX hd hs hf hb3 hlen HM HMR HB2 HW3 HB2R z0 z1 KU KM1
      go_wp2_with fail
      refine KM2.out.mono ?_
      rintro e w4 ⟨T2, D2, v2, va2, ns2, xs2, rfl, hM, hMR, hb4⟩
      obtain ⟨-, y0, y1, -⟩ := FAR.out w4 (HB3.out.trans (hb4.mono HB3.out.size))
      have hw5 : Below w4.heap.size w4 (w4.alloc (.cells #[.string a, .string b] 9)) := (Below.refl _ w4).alloc (Nat.le_refl _) _
      have KB := Lib.hid (back_to (zs := [a, b]) (cap := 2) (hM.doc.below hw5) (hM.st.below hw5) (fun k h1 h2 => hM.ap k h2 h1) (rdT_new w4 [a, b] 9) (fun ad e => by cases e; exact fun h => by have := hM.st.in_ _ h; simp only at this; omega) (by simp) (by rw [hMR.1]; omega))
      have HM := Lib.hid hM
      have HMR := Lib.hid hMR
      have HB4R := Lib.hid hb4
      have HW5 := Lib.hid hw5
      have z0 : w4.cell? ⟨w.heap.size, 0, none⟩ = some (.string a) := by rw [cell_of_row _ _ _ _ _ _ y0]; rfl
      have z1 : w4.cell? ⟨w.heap.size + 1, 0, none⟩ = some (.string b) := by rw [cell_of_row _ _ _ _ _ _ y1]; rfl
      clear y0 y1 hw5 hM hMR hb4 KM2
      simp only [List.length_cons, List.length_nil, Nat.zero_add, Nat.reduceAdd] at KB
      go_wp2_with fail
      refine KB.out.mono ?_
      rintro e w5 ⟨rfl, vk, hd, hs, hf, _⟩
      have hb5 : Below w3.heap.size w3 w5 := (HB4R.out.trans (HW5.out.mono HB4R.out.size)).trans (hf.toBelow (Nat.le_trans HB4R.out.size HW5.out.size) HM.out.ge)
      obtain ⟨A5, c5, rfl, _⟩ := hs.rd.form
      have hlen := back_len a b HMR.out
      rw [HP.out, HBB.out] at hlen
      have S2 := Lib.hid (fun X (h : Below w5.heap.size w5 X) => (hs.below h).cells.2.1)
      rw [hlen] at S2
      have S1b := Lib.hid (fun X (h : Below w5.heap.size w5 X) => S1.out X (hb5.trans (h.mono hb5.size)))
      have HB5 := Lib.hid (HB3.out.trans (hb5.mono HB3.out.size))
      clear hd hs hf hb5 hlen HM HMR HW5 HB4R HB3 HB z0 z1 KB S1 HU HBB
      obtain ⟨Q, hQ⟩ : ∃ Q, nm.map (fun x => !(gO a all x)) = Q := ⟨_, rfl⟩
      have HQ := Lib.hid hQ
      have HQL := Lib.hid (show Q.length = nm.length by rw [← hQ]; simp)
      obtain ⟨I, hI⟩ : ∃ I, cB Q.reverse = I := ⟨_, rfl⟩
      have HI := Lib.hid hI
      clear hQ hI
      go_upto_block 2 with fail
      go_cut [16] (fun kv wx => kv = .int .i64 I ∧ Hid (Below w5.heap.size w5 wx))
      case first =>
        go_wp2_with fail
        go_loopw [16] (fun kv wx => ∃ k : Nat, k ≤ nm.length ∧ kv = .int .i64 k ∧ Hid (cB (Q.take k).reverse = I) ∧ Hid (Below w5.heap.size w5 wx)) (fun kv _ => (intOf kv).toNat)
        case atStart => exact ⟨nm.length, Nat.le_refl _, rfl, Lib.hid (by rw [List.take_of_length_le (by have := HQL.out; omega)]; exact HI.out), Lib.hid (Below.refl _ _)⟩
        case round =>
          obtain ⟨k, hk, rfl, HC, HBX⟩ := hrel
          by_cases h0 : k = 0
          · subst h0
            have h0I : (0 : Nat) = I := HC.out
            have hd1 : decide ((0 : Int) < ((0 : Nat) : Int)) = false := by decide
            go_wp2
            go_meet
            exact ⟨by rw [← h0I], HBX⟩
          · obtain ⟨j, rfl⟩ : ∃ j, k = j + 1 := ⟨k - 1, by omega⟩
            obtain ⟨x, hx⟩ : ∃ x, nm[j]? = some x := ⟨_, List.getElem?_eq_getElem (by omega)⟩
            obtain ⟨-, y0, -, hrX⟩ := FAR.out wr (HB5.out.trans (HBX.out.mono HB5.out.size))
            obtain ⟨g, off, rfl, hgl, c0, c1⟩ := hrX.at_ hx
            have z0 : wr.cell? ⟨w.heap.size, 0, none⟩ = some (.string a) := by rw [cell_of_row _ _ _ _ _ _ y0]; rfl
            have hqj : Q[j]? = some (!(gO a all x)) := by rw [← HQ.out, List.getElem?_map, hx]; rfl
            have hT : cB (Q.take (j + 1)).reverse = if !(gO a all x) then j + 1 else cB (Q.take j).reverse := by
              rw [List.take_add_one, hqj]
              show cB (Q.take j ++ [_]).reverse = _
              rw [cB_snoc, List.length_take, HQL.out, Nat.min_eq_left (by omega)]
            rw [hT] at HC
            have hd1 : decide ((0 : Int) < (j : Int) + 1) = true := decide_eq_true (by omega)
            have hwx : Below wr.heap.size wr (wr.alloc (.cells #[.string x.1, .int .i64 x.2] 67)) := (Below.refl _ wr).alloc (Nat.le_refl _) _
            have HBX1 := Lib.hid (HBX.out.trans (hwx.mono HBX.out.size))
            have HNO := Lib.hid (fun (h : gO a all x = false) => show j + 1 = I by have := HC.out; rw [h] at this; exact this)
            have HGO := Lib.hid (fun (h : gO a all x = true) => show cB (Q.take j).reverse = I by have := HC.out; rw [h] at this; exact this)
            obtain ⟨wx, hwX⟩ : ∃ wx, wr.alloc (.cells #[.string x.1, .int .i64 x.2] 67) = wx := ⟨_, rfl⟩
            rw [hwX] at HBX1 hwx
            obtain ⟨wy, hwY⟩ : ∃ wy, wx.alloc (.cells (iS.map Value.string).toArray 9) = wy := ⟨_, rfl⟩
            obtain ⟨wz, hwZ⟩ : ∃ wz, wy.alloc (.cells (jS.map Value.string).toArray 9) = wz := ⟨_, rfl⟩
            have hr1 : RdT wy (some ⟨wx.heap.size, 0, none⟩) iS := by rw [← hwY]; exact rdT_new wx iS 9
            have hr2 : RdT wz (some ⟨wy.heap.size, 0, none⟩) jS := by rw [← hwZ]; exact rdT_new wy jS 9
            have hby : Below wx.heap.size wx wy := by rw [← hwY]; exact (Below.refl _ _).alloc (Nat.le_refl _) _
            have hbz : Below wy.heap.size wy wz := by rw [← hwZ]; exact (Below.refl _ _).alloc (Nat.le_refl _) _
            have K1 := list_any iS x.1 (some ⟨wx.heap.size, 0, none⟩) 10 wy hr1 (by decide)
            have K2 := list_any jS x.1 (some ⟨wy.heap.size, 0, none⟩) 8 wz hr2 (by decide)
            have HBX2 := Lib.hid (HBX1.out.trans (hby.mono HBX1.out.size))
            have HBX3 := Lib.hid (HBX2.out.trans (hbz.mono HBX2.out.size))
            have sX : wx.heap.size = wr.heap.size + 1 := by rw [← hwX, World.size_alloc]
            have sY : wy.heap.size = wr.heap.size + 1 + 1 := by rw [← hwY, World.size_alloc, sX]
            rw [sX] at K1
            rw [sY] at K2
            unfold gO at HNO HGO
            obtain ⟨bi, hbi⟩ : ∃ bi, amg iS x.1 = bi := ⟨_, rfl⟩
            obtain ⟨bj, hbj⟩ : ∃ bj, amg jS x.1 = bj := ⟨_, rfl⟩
            rw [hbi] at K1 HNO HGO
            rw [hbj] at K2 HNO HGO
            have H1 := Lib.hid K1
            have H2 := Lib.hid K2
            have HBI := Lib.hid hbi
            have HBJ := Lib.hid hbj
            have zx : wx.cell? ⟨w.heap.size, 0, none⟩ = some (.string a) := (hwx.cell (p := ⟨w.heap.size, 0, none⟩) (World.block_lt_of_cell? _ _ z0)).trans z0
            clear hqj hT hx hrX y0 h0 HC hr1 hr2 hby hbz K1 K2 hwx sX sY hbi hbj z0
            simp only [iS, jS, List.map_cons, List.map_nil, List.length_cons, List.length_nil, Nat.reduceAdd] at H1 H2 hwY hwZ
            subst hwZ
            subst hwY
            subst hwX
            cases hs : (spc x.2 == 0) with
            | false =>
              have HN := Lib.hid (HNO.out (by rw [hs]; rfl))
              have hs2 : ((bits BinOp.and IntKind.i64 x.2 3).tmod 3 != 0) = true := by unfold spc at hs; unfold bne; rw [hs]; rfl
              clear hs HNO HGO
              go_wp2
              go_meet
              exact ⟨by have := HN.out; subst this; first | rfl | go_num, HBX1⟩
            | true =>
              rw [hs] at HNO HGO
              have hs2 : ((bits BinOp.and IntKind.i64 x.2 3).tmod 3 != 0) = false := by unfold spc at hs; unfold bne; rw [hs]; rfl
              clear hs
              cases ha : a.toList.isEmpty with
              | false =>
                have hae : ¬ a.toList = [] := fun e => by rw [e] at ha; cases ha
                cases hq : (x.1.toList == a.toList) with
                | true =>
                  have HN := Lib.hid (HNO.out (by unfold sm; rw [hq]; rfl))
                  clear HNO HGO
                  go_wp2
                  go_meet
                  exact ⟨by have := HN.out; subst this; first | rfl | go_num, HBX1⟩
                | false =>
                  have hsm : sm x.1 a = false := hq
                  rw [hsm] at HNO HGO
                  clear hsm
                  cases bi with
                  | true =>
                    have HG := Lib.hid (HGO.out rfl)
                    clear HNO HGO
                    go_wp2_with fail
                    refine H1.out.mono ?_
                    rintro e w7 ⟨rfl, rfl⟩
                    go_wp2
                    go_roundw
                    case rel => exact ⟨j, by omega, by go_num, HG, HBX2⟩
                    case measure => (simp [intOf]) <;> omega
                  | false =>
                    cases all with
                    | false =>
                      have HN := Lib.hid (HNO.out rfl)
                      clear HNO HGO
                      go_wp2_with fail
                      refine H1.out.mono ?_
                      rintro e w7 ⟨rfl, rfl⟩
                      go_wp2
                      go_meet
                      exact ⟨by have := HN.out; subst this; first | rfl | go_num, HBX2⟩
                    | true =>
                      cases bj with
                      | true =>
                        have HG := Lib.hid (HGO.out rfl)
                        clear HNO HGO
                        go_wp2_with fail
                        refine H1.out.mono ?_
                        rintro e w7 ⟨rfl, rfl⟩
                        go_wp2_with fail
                        refine H2.out.mono ?_
                        rintro e w7 ⟨rfl, rfl⟩
                        go_wp2
                        go_roundw
                        case rel => exact ⟨j, by omega, by go_num, HG, HBX3⟩
                        case measure => (simp [intOf]) <;> omega
                      | false =>
                        have HN := Lib.hid (HNO.out rfl)
                        clear HNO HGO
                        go_wp2_with fail
                        refine H1.out.mono ?_
                        rintro e w7 ⟨rfl, rfl⟩
                        go_wp2_with fail
                        refine H2.out.mono ?_
                        rintro e w7 ⟨rfl, rfl⟩
                        go_wp2
                        go_meet
                        exact ⟨by have := HN.out; subst this; first | rfl | go_num, HBX3⟩
              | true =>
                have hae : a.toList = [] := List.isEmpty_iff.1 ha
                cases hq : sm x.1 a with
                | true =>
                  have hx0 : x.1.toList = [] := by
                    have h3 := eq_of_beq (show (x.1.toList == a.toList) = true from hq)
                    rw [h3, hae]
                  obtain rfl : bi = false := by rw [← HBI.out]; unfold amg sm; rw [hx0]; decide +kernel
                  obtain rfl : bj = false := by rw [← HBJ.out]; unfold amg sm; rw [hx0]; decide +kernel
                  have HN := Lib.hid (HNO.out (by rw [hq]; rfl))
                  clear HNO HGO hq hx0
                  cases all with
                  | false =>
                    go_wp2_with fail
                    refine H1.out.mono ?_
                    rintro e w7 ⟨rfl, rfl⟩
                    go_wp2
                    go_meet
                    exact ⟨by have := HN.out; subst this; first | rfl | go_num, HBX2⟩
                  | true =>
                    go_wp2_with fail
                    refine H1.out.mono ?_
                    rintro e w7 ⟨rfl, rfl⟩
                    go_wp2_with fail
                    refine H2.out.mono ?_
                    rintro e w7 ⟨rfl, rfl⟩
                    go_wp2
                    go_meet
                    exact ⟨by have := HN.out; subst this; first | rfl | go_num, HBX3⟩
                | false =>
                  rw [hq] at HNO HGO
                  clear hq
                  cases bi with
                  | true =>
                    have HG := Lib.hid (HGO.out rfl)
                    clear HNO HGO
                    go_wp2_with fail
                    refine H1.out.mono ?_
                    rintro e w7 ⟨rfl, rfl⟩
                    go_wp2
                    go_roundw
                    case rel => exact ⟨j, by omega, by go_num, HG, HBX2⟩
                    case measure => (simp [intOf]) <;> omega
                  | false =>
                    cases all with
                    | false =>
                      have HN := Lib.hid (HNO.out rfl)
                      clear HNO HGO
                      go_wp2_with fail
                      refine H1.out.mono ?_
                      rintro e w7 ⟨rfl, rfl⟩
                      go_wp2
                      go_meet
                      exact ⟨by have := HN.out; subst this; first | rfl | go_num, HBX2⟩
                    | true =>
                      cases bj with
                      | true =>
                        have HG := Lib.hid (HGO.out rfl)
                        clear HNO HGO
                        go_wp2_with fail
                        refine H1.out.mono ?_
                        rintro e w7 ⟨rfl, rfl⟩
                        go_wp2_with fail
                        refine H2.out.mono ?_
                        rintro e w7 ⟨rfl, rfl⟩
                        go_wp2
                        go_roundw
                        case rel => exact ⟨j, by omega, by go_num, HG, HBX3⟩
                        case measure => (simp [intOf]) <;> omega
                      | false =>
                        have HN := Lib.hid (HNO.out rfl)
                        clear HNO HGO
                        go_wp2_with fail
                        refine H1.out.mono ?_
                        rintro e w7 ⟨rfl, rfl⟩
                        go_wp2_with fail
                        refine H2.out.mono ?_
                        rintro e w7 ⟨rfl, rfl⟩
                        go_wp2
                        go_meet
                        exact ⟨by have := HN.out; subst this; first | rfl | go_num, HBX3⟩
      case rest =>
        obtain ⟨rfl, HBX⟩ := hcut
        obtain ⟨-, -, -, hrX⟩ := FAR.out wc (HB5.out.trans (HBX.out.mono HB5.out.size))
        have KM3 := Lib.hid (made_gen nm A cap wc hrX (by omega))
        have HBC := Lib.hid (HB5.out.trans (HBX.out.mono HB5.out.size))
        clear hrX
        go_wp2_with fail
        refine KM3.out.mono ?_
        rintro e w6 ⟨T3, D3, v3, va3, ns3, xs3, rfl, hM, hMR, hb6⟩
        obtain ⟨-, y0, -, -⟩ := FAR.out w6 (HBC.out.trans (hb6.mono HBC.out.size))
        have KI := Lib.hid (imply_any a all hM.doc hM.st (fun k h1 h2 => hM.ap k h2 h1) (by rw [hMR.1]; omega))
        have hlen := imply_len a all hMR
        rw [HQ.out, HI.out] at hlen
        have HM := Lib.hid hM
        have HB6R := Lib.hid hb6
        have z0 : w6.cell? ⟨w.heap.size, 0, none⟩ = some (.string a) := by rw [cell_of_row _ _ _ _ _ _ y0]; rfl
        have HLEN := Lib.hid hlen
        clear y0 hM hMR hb6 KM3 hlen
        go_wp2_with fail
        refine KI.out.mono ?_
        rintro e w7 ⟨rfl, vk, hd, hs, hf, _⟩
        have hb7 : Below wc.heap.size wc w7 := HB6R.out.trans (hf.toBelow HB6R.out.size HM.out.ge)
        obtain ⟨A7, c7, rfl, _⟩ := hs.rd.form
        have e3 := hs.cells.2.1
        rw [HLEN.out] at e3
        have hb57 : Below w5.heap.size w5 w7 := HBX.out.trans (hb7.mono HBX.out.size)
        have e1 := S1b.out w7 hb57
        have e2 := S2.out w7 hb57
        have HBF := Lib.hid (FAR.out w7 (HB5.out.trans (hb57.mono HB5.out.size))).1
        have q1 : ((U : Int) == (U : Int)) = true := by simp
        have q2 : ((B : Int) == (B : Int)) = true := by simp
        have q3 : ((I : Int) == (I : Int)) = true := by simp
        clear hd hs hf hb7 hb57 HM HB6R HBC KI z0 HLEN S1b S2
        go_wp2
        go_ret
        exact ⟨rfl, HBF.out⟩
end Go.Proofs.Ytfkbjniodomdjaa
