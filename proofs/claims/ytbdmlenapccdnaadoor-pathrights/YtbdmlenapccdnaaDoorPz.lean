/- The law PathParts, walked. -/
import Derived.Test.YtbdmlenapccdnaaDoorPw
import Derived.Test.YtbdmlenapccdnaaDoorPh
namespace Go.Proofs.YtbdmlenapccdnaaDoor
open Go.RowKit

theorem occ_at {l : List UInt8} {i : Nat} : Lib.occAt l [47] i = true ↔ l[i]? = some 47 := by
  unfold Lib.occAt
  cases hd : l.drop i with
  | nil =>
    have : l[i]? = none := by
      rw [List.getElem?_eq_none_iff]
      exact List.drop_eq_nil_iff.1 hd
    simp [this, List.isPrefixOf]
  | cons c m =>
    have : l[i]? = some c := by
      have := congrArg (·[0]?) hd
      simpa [List.getElem?_drop] using this
    rw [this]
    simp [List.isPrefixOf]
    exact ⟨fun e => e.symm, fun e => e.symm⟩
theorem last_none {l : List UInt8} (h : ∀ i : Nat, l[i]? ≠ some 47) : Lib.lastIndex l [47] = -1 := by
  unfold Lib.lastIndex
  split
  · rcases Lib.lastOcc_spec l [47] (l.length - [(47 : UInt8)].length + 1) with ⟨h1, _⟩ | ⟨i, _, _, h3, _⟩
    · exact h1
    · exact absurd (occ_at.1 h3) (h i)
  · rfl
theorem last_behind (l : List UInt8) : ∀ j : Nat, (Lib.lastIndex l [47] + 1).toNat ≤ j → l[j]? ≠ some 47 := by
  intro j hj e
  have hjl := (List.getElem?_eq_some_iff.1 e).1
  unfold Lib.lastIndex at hj
  rw [if_pos (by simp; omega)] at hj
  rcases Lib.lastOcc_spec l [47] (l.length - [(47 : UInt8)].length + 1) with ⟨_, h2⟩ | ⟨i, h1, h2, _, h4⟩
  · have := h2 j (by simp; omega)
    rw [occ_at.2 e] at this
    cases this
  · rw [h2] at hj
    have := h4 j (by omega) (by simp; omega)
    rw [occ_at.2 e] at this
    cases this
theorem dir_nil {s : ByteArray} (h : ∀ i : Nat, s.data.toList[i]? ≠ some 47) : dirB s = ⟨#[]⟩ := by
  unfold dirB
  rw [last_none h]
  apply ByteArray.ext
  simp
theorem join_is (a b : ByteArray) : a ++ ⟨#[47]⟩ ++ b = joinS a b := by
  apply ByteArray.ext
  apply Array.toList_inj.1
  unfold joinS
  rw [ByteArray.data_append, Array.toList_append, ByteArray.data_append, Array.toList_append]
  simp
theorem join_size (a b : ByteArray) : (joinS a b).size = a.size + 1 + b.size := by
  show (a.data.toList ++ 47 :: b.data.toList).toArray.size = a.data.size + 1 + b.data.size
  rw [List.size_toArray, List.length_append, List.length_cons, Array.length_toList, Array.length_toList]
  omega

set_option maxRecDepth 100000 in
set_option maxHeartbeats 2000000 in
theorem pathParts_law (a b : ByteArray) (w : World) (hm : MX w) (ha : a.size ≤ 9223372036854775807) (hb : b.size ≤ 9223372036854775807) :
    Calls Tryd.prog 7 #[.string a, .string b] w fun e w' => e = .returned (.bool true) ∧ Below w.heap.size w w' := by
  have KH := Lib.hid (head6_any w hm)
  have HM := Lib.hid hm
  clear hm
  go_enter Tryd.func7, Tryd.ntmps7
  go_wp2_with fail
  refine KH.out.mono ?_
  rintro e w1 ⟨rfl, hb1⟩
  have m1 := Lib.hid (HM.out.below hb1)
  by_cases hl1 : (150 : Int) < (a.size : Int)
  · have hd1 : decide ((150 : Int) < (a.size : Int)) = true := by simpa using hl1
    go_wp2
    go_ret
    exact ⟨rfl, hb1⟩
  have hd1 : decide ((150 : Int) < (a.size : Int)) = false := by simpa using hl1
  by_cases hl2 : (150 : Int) < (b.size : Int)
  · have hd2 : decide ((150 : Int) < (b.size : Int)) = true := by simpa using hl2
    go_wp2
    go_ret
    exact ⟨rfl, hb1⟩
  have hd2 : decide ((150 : Int) < (b.size : Int)) = false := by simpa using hl2
  have kD := Dir_any a w1 (by omega)
  have hbd := last_bd a
  obtain ⟨K, hK⟩ : ∃ K, (Lib.lastIndex a.data.toList [47] + 1).toNat = K := ⟨_, rfl⟩
  have hKl : K ≤ a.size := by omega
  have hbeh := last_behind a.data.toList
  have hdir : dirB a = a.extract 0 K := by unfold dirB; rw [hK]
  rw [hK] at hbeh
  rw [hdir] at kD
  obtain ⟨d, hde⟩ : ∃ d, a.extract 0 K = d := ⟨_, rfl⟩
  have hdz : d.size = K := by rw [← hde]; simp [ByteArray.size_extract]; omega
  rw [hde] at kD
  obtain ⟨R, hR⟩ : ∃ R, a.extract K a.size = R := ⟨_, rfl⟩
  have hRl : R.data.toList = a.data.toList.drop K := by
    rw [← hR, ByteArray.data_extract, Array.toList_extract, List.extract_eq_take_drop]
    apply List.take_of_length_le
    rw [List.length_drop, Array.length_toList]
    exact Nat.le_refl _
  have hRs : R.size ≤ 150 := by rw [← hR]; simp [ByteArray.size_extract]; omega
  have hRn : ∀ i : Nat, R.data.toList[i]? ≠ some 47 := by
    intro i
    rw [hRl, List.getElem?_drop]
    exact hbeh _ (by omega)
  have KD := Lib.hid kD
  have KR := Lib.hid (fun w => Dir_any R w (by omega))
  rw [dir_nil hRn] at KR
  have HRN := Lib.hid hRn
  have ts : (d.toList == d.toList) = true := by simp
  have hK0 : (0 : Int) ≤ (K : Int) := by omega
  have hK1 : (K : Int) ≤ (a.size : Int) := by omega
  have hjs := join_size a b
  have hs1 : a.size + (⟨#[47]⟩ : ByteArray).size ≤ 9223372036854775807 := by show a.size + 1 ≤ _; omega
  have hs2 : (a ++ ⟨#[47]⟩ : ByteArray).size + b.size ≤ 9223372036854775807 := by rw [ByteArray.size_append]; show a.size + 1 + b.size ≤ _; omega
  have kA1 := fun (w : World) => run_string_add_sum (P := Tryd.prog) w a ⟨#[47]⟩ hs1
  have kA2 := fun (w : World) => run_string_add_sum (P := Tryd.prog) w (a ++ ⟨#[47]⟩) b hs2
  have hjoin := join_is a b
  rw [hjoin] at kA2
  have hn1 : ¬ (9223372036854775807 < a.size + (⟨#[47]⟩ : ByteArray).size) := by omega
  have hn2 : ¬ (9223372036854775807 < (a ++ ⟨#[47]⟩ : ByteArray).size + b.size) := by omega
  have HJ := Lib.hid hjs
  clear kD hbd hbeh hdir hRl hRn hjs hK
  go_wp2_with fail
  refine KD.out.mono ?_
  rintro e w1 ⟨rfl, rfl⟩
  go_wp2_with fail
  go_loopw [7] (fun iv wr => ∃ i : Nat, i ≤ R.size ∧ iv = .int .i64 i ∧ wr = w1) (fun iv _ => R.size - (intOf iv).toNat)
  case atStart => exact ⟨0, by omega, rfl, rfl⟩
  case round =>
    obtain ⟨i, hi, rfl, hw⟩ := hrel
    replace hw := hw.symm
    subst hw
    by_cases hlt : i < R.size
    · have hl3 : decide ((i : Int) < (R.size : Int)) = true := by simp; omega
      have hi1 : (i : Int) < (R.size : Int) := by omega
      have hd : (((R[i]'hlt).toNat : Int) == 47) = false := by
        simp
        intro e
        apply HRN.out i
        rw [Array.getElem?_toList, Array.getElem?_eq_getElem (show i < R.data.size from hlt)]
        have h47 : (R[i]'hlt).toNat = 47 := by omega
        exact congrArg some (UInt8.toNat_inj.1 h47)
      go_wp2
      go_roundw
      case rel => exact ⟨i + 1, by omega, by go_num, trivial⟩
      case measure => simp [intOf]; omega
    · have hl3 : decide ((i : Int) < (R.size : Int)) = false := by simp; omega
      have hj := right_join a b
      have K1 := fun w (h : MX w) => Right_any (joinS a b) w h (by have := HJ.out; omega)
      have K2 := fun w (h : MX w) => Right_any a w h (by omega)
      have K3 := fun w (h : MX w) => Right_any b w h (by omega)
      have hjb : (joinS a b).size ≤ 301 := by have := HJ.out; omega
      cases hra : rightB a
      · rw [hra, Bool.false_and, Bool.false_and, Bool.false_and] at hj
        rw [hj] at K1
        rw [hra] at K2
        have KK1 := Lib.hid K1
        have KK2 := Lib.hid K2
        clear K1 K2 K3 hj hra
        go_wp2_with fail
        refine (KR.out _).mono ?_
        rintro e w1 ⟨rfl, rfl⟩
        go_wp2_with fail
        refine (KK1.out _ m1.out).mono ?_
        rintro e w2 ⟨rfl, hb2⟩
        have m2 := Lib.hid (m1.out.below hb2)
        go_wp2_with fail
        refine (KK2.out _ m2.out).mono ?_
        rintro e w3 ⟨rfl, hb3⟩
        have m3 := Lib.hid (m2.out.below hb3)
        have hbf := (hb1.trans (hb2.mono hb1.size)).trans (hb3.mono (hb1.trans (hb2.mono hb1.size)).size)
        cases hha : hidB a
        · have hjf : hidB (joinS a b) = hidB b := by rw [hid_join, hha]; rfl
          have K5 := Lib.hid (fun w (h : MX w) => Hidden_any (joinS a b) w h (by omega))
          have K6 := Lib.hid (fun w (h : MX w) => Hidden_any a w h (by omega))
          have K7 := Lib.hid (fun w (h : MX w) => Hidden_any b w h (by omega))
          rw [hjf] at K5
          rw [hha] at K6
          have hbb : (hidB b == hidB b) = true := by simp
          clear hjf hha
          generalize hidB b = hb at *
          go_wp2_with fail
          refine (K5.out _ m3.out).mono ?_
          rintro e wz ⟨rfl, rfl⟩
          go_wp2_with fail
          refine (K6.out _ m3.out).mono ?_
          rintro e wz ⟨rfl, rfl⟩
          go_wp2_with fail
          refine (K7.out _ m3.out).mono ?_
          rintro e wz ⟨rfl, rfl⟩
          go_wp2
          go_ret
          exact ⟨rfl, hbf⟩
        · have hjt : hidB (joinS a b) = true := by rw [hid_join, hha]; rfl
          have K5 := Lib.hid (fun w (h : MX w) => Hidden_any (joinS a b) w h (by omega))
          have K6 := Lib.hid (fun w (h : MX w) => Hidden_any a w h (by omega))
          rw [hjt] at K5
          rw [hha] at K6
          clear hjt hha
          go_wp2_with fail
          refine (K5.out _ m3.out).mono ?_
          rintro e wz ⟨rfl, rfl⟩
          go_wp2_with fail
          refine (K6.out _ m3.out).mono ?_
          rintro e wz ⟨rfl, rfl⟩
          go_wp2
          go_ret
          exact ⟨rfl, hbf⟩
      · cases hrb : rightB b
        · rw [hra, hrb] at hj
          rw [show (true && false && decide ((joinS a b).size ≤ 200) && decide ((partsL (joinS a b)).length ≤ 16)) = false from rfl] at hj
          rw [hj] at K1
          rw [hra] at K2
          rw [hrb] at K3
          have KK1 := Lib.hid K1
          have KK2 := Lib.hid K2
          have KK3 := Lib.hid K3
          clear K1 K2 K3 hj hra hrb
          go_wp2_with fail
          refine (KR.out _).mono ?_
          rintro e w1 ⟨rfl, rfl⟩
          go_wp2_with fail
          refine (KK1.out _ m1.out).mono ?_
          rintro e w2 ⟨rfl, hb2⟩
          have m2 := Lib.hid (m1.out.below hb2)
          go_wp2_with fail
          refine (KK2.out _ m2.out).mono ?_
          rintro e w3 ⟨rfl, hb3⟩
          have m3 := Lib.hid (m2.out.below hb3)
          go_wp2_with fail
          refine (KK3.out _ m3.out).mono ?_
          rintro e w4 ⟨rfl, hb4⟩
          have m4 := Lib.hid (m3.out.below hb4)
          have hbe := (hb1.trans (hb2.mono hb1.size)).trans (hb3.mono (hb1.trans (hb2.mono hb1.size)).size)
          have hbf := hbe.trans (hb4.mono hbe.size)
          cases hha : hidB a
          · have hjf : hidB (joinS a b) = hidB b := by rw [hid_join, hha]; rfl
            have K5 := Lib.hid (fun w (h : MX w) => Hidden_any (joinS a b) w h (by omega))
            have K6 := Lib.hid (fun w (h : MX w) => Hidden_any a w h (by omega))
            have K7 := Lib.hid (fun w (h : MX w) => Hidden_any b w h (by omega))
            rw [hjf] at K5
            rw [hha] at K6
            have hbb : (hidB b == hidB b) = true := by simp
            clear hjf hha
            generalize hidB b = hb at *
            go_wp2_with fail
            refine (K5.out _ m4.out).mono ?_
            rintro e wz ⟨rfl, rfl⟩
            go_wp2_with fail
            refine (K6.out _ m4.out).mono ?_
            rintro e wz ⟨rfl, rfl⟩
            go_wp2_with fail
            refine (K7.out _ m4.out).mono ?_
            rintro e wz ⟨rfl, rfl⟩
            go_wp2
            go_ret
            exact ⟨rfl, hbf⟩
          · have hjt : hidB (joinS a b) = true := by rw [hid_join, hha]; rfl
            have K5 := Lib.hid (fun w (h : MX w) => Hidden_any (joinS a b) w h (by omega))
            have K6 := Lib.hid (fun w (h : MX w) => Hidden_any a w h (by omega))
            rw [hjt] at K5
            rw [hha] at K6
            clear hjt hha
            go_wp2_with fail
            refine (K5.out _ m4.out).mono ?_
            rintro e wz ⟨rfl, rfl⟩
            go_wp2_with fail
            refine (K6.out _ m4.out).mono ?_
            rintro e wz ⟨rfl, rfl⟩
            go_wp2
            go_ret
            exact ⟨rfl, hbf⟩
        · rw [hra, hrb, Bool.true_and, Bool.true_and] at hj
          rw [hra] at K2
          rw [hrb] at K3
          have KK2 := Lib.hid K2
          have KK3 := Lib.hid K3
          clear K2 K3 hra hrb
          by_cases h200 : (joinS a b).size ≤ 200
          · have hd5 : decide (((joinS a b).size : Int) ≤ 200) = true := by simp; omega
            rw [decide_eq_true h200, Bool.true_and] at hj
            have hpl : (partsL (joinS a b)).length = (sp (joinS a b).data.toList).length := by rw [← partsL_sp, List.length_map]
            rw [hpl] at hj
            have KP := Lib.hid (fun w => parts_any (joinS a b) w (by omega))
            obtain ⟨L, hL⟩ : ∃ L, sp (joinS a b).data.toList = L := ⟨_, rfl⟩
            rw [hL] at hj KP
            rw [hj] at K1
            have KK1 := Lib.hid K1
            have hdec : decide ((L.length : Int) ≤ 16) = decide (L.length ≤ 16) := by
              rw [Bool.eq_iff_iff]
              simp
              omega
            have hdd : (decide (L.length ≤ 16) == decide (L.length ≤ 16)) = true := by simp
            have hLb : L.length ≤ 302 := by
              rw [← hL]
              have h1 := sp_len (joinS a b).data.toList
              have h3 : (joinS a b).data.toList.length = (joinS a b).size := Array.length_toList
              omega
            generalize decide (L.length ≤ 16) = q at *
            clear K1 hj hpl hL
            go_wp2_with fail
            refine (KR.out _).mono ?_
            rintro e w1 ⟨rfl, rfl⟩
            go_wp2_with fail
            refine (KK1.out _ m1.out).mono ?_
            rintro e w2 ⟨rfl, hb2⟩
            have m2 := Lib.hid (m1.out.below hb2)
            go_wp2_with fail
            refine (KK2.out _ m2.out).mono ?_
            rintro e w3 ⟨rfl, hb3⟩
            have m3 := Lib.hid (m2.out.below hb3)
            go_wp2_with fail
            refine (KK3.out _ m3.out).mono ?_
            rintro e w4 ⟨rfl, hb4⟩
            have m4 := Lib.hid (m3.out.below hb4)
            go_wp2_with fail
            refine (KP.out _).mono ?_
            rintro e w5 ⟨v5, rfl, hown5, hb5⟩
            have m5 := Lib.hid (m4.out.below hb5)
            have hbe := (hb1.trans (hb2.mono hb1.size)).trans (hb3.mono (hb1.trans (hb2.mono hb1.size)).size)
            have hbg := hbe.trans (hb4.mono hbe.size)
            have hbf := hbg.trans (hb5.mono hbg.size)
            obtain ⟨V5, c5, rfl⟩ : ∃ V c, v5 = .slice V L.length c := by
              rcases hown5.2 with ⟨e, h0⟩ | ⟨g, c, cur, e, _⟩
              · exact ⟨none, 0, by rw [e, h0]⟩
              · exact ⟨_, _, e⟩
            clear hown5
            cases hha : hidB a
            · have hjf : hidB (joinS a b) = hidB b := by rw [hid_join, hha]; rfl
              have K5 := Lib.hid (fun w (h : MX w) => Hidden_any (joinS a b) w h (by omega))
              have K6 := Lib.hid (fun w (h : MX w) => Hidden_any a w h (by omega))
              have K7 := Lib.hid (fun w (h : MX w) => Hidden_any b w h (by omega))
              rw [hjf] at K5
              rw [hha] at K6
              have hbb : (hidB b == hidB b) = true := by simp
              clear hjf hha
              generalize hidB b = hb at *
              go_wp2_with fail
              refine (K5.out _ m5.out).mono ?_
              rintro e wz ⟨rfl, rfl⟩
              go_wp2_with fail
              refine (K6.out _ m5.out).mono ?_
              rintro e wz ⟨rfl, rfl⟩
              go_wp2_with fail
              refine (K7.out _ m5.out).mono ?_
              rintro e wz ⟨rfl, rfl⟩
              go_wp2
              go_ret
              exact ⟨rfl, hbf⟩
            · have hjt : hidB (joinS a b) = true := by rw [hid_join, hha]; rfl
              have K5 := Lib.hid (fun w (h : MX w) => Hidden_any (joinS a b) w h (by omega))
              have K6 := Lib.hid (fun w (h : MX w) => Hidden_any a w h (by omega))
              rw [hjt] at K5
              rw [hha] at K6
              clear hjt hha
              go_wp2_with fail
              refine (K5.out _ m5.out).mono ?_
              rintro e wz ⟨rfl, rfl⟩
              go_wp2_with fail
              refine (K6.out _ m5.out).mono ?_
              rintro e wz ⟨rfl, rfl⟩
              go_wp2
              go_ret
              exact ⟨rfl, hbf⟩
          · have hd5 : decide (((joinS a b).size : Int) ≤ 200) = false := by simp; omega
            rw [decide_eq_false h200, Bool.false_and] at hj
            rw [hj] at K1
            have KK1 := Lib.hid K1
            clear K1 hj
            go_wp2_with fail
            refine (KR.out _).mono ?_
            rintro e w1 ⟨rfl, rfl⟩
            go_wp2_with fail
            refine (KK1.out _ m1.out).mono ?_
            rintro e w2 ⟨rfl, hb2⟩
            have m2 := Lib.hid (m1.out.below hb2)
            go_wp2_with fail
            refine (KK2.out _ m2.out).mono ?_
            rintro e w3 ⟨rfl, hb3⟩
            have m3 := Lib.hid (m2.out.below hb3)
            go_wp2_with fail
            refine (KK3.out _ m3.out).mono ?_
            rintro e w4 ⟨rfl, hb4⟩
            have m4 := Lib.hid (m3.out.below hb4)
            have hbe := (hb1.trans (hb2.mono hb1.size)).trans (hb3.mono (hb1.trans (hb2.mono hb1.size)).size)
            have hbf := hbe.trans (hb4.mono hbe.size)
            cases hha : hidB a
            · have hjf : hidB (joinS a b) = hidB b := by rw [hid_join, hha]; rfl
              have K5 := Lib.hid (fun w (h : MX w) => Hidden_any (joinS a b) w h (by omega))
              have K6 := Lib.hid (fun w (h : MX w) => Hidden_any a w h (by omega))
              have K7 := Lib.hid (fun w (h : MX w) => Hidden_any b w h (by omega))
              rw [hjf] at K5
              rw [hha] at K6
              have hbb : (hidB b == hidB b) = true := by simp
              clear hjf hha
              generalize hidB b = hb at *
              go_wp2_with fail
              refine (K5.out _ m4.out).mono ?_
              rintro e wz ⟨rfl, rfl⟩
              go_wp2_with fail
              refine (K6.out _ m4.out).mono ?_
              rintro e wz ⟨rfl, rfl⟩
              go_wp2_with fail
              refine (K7.out _ m4.out).mono ?_
              rintro e wz ⟨rfl, rfl⟩
              go_wp2
              go_ret
              exact ⟨rfl, hbf⟩
            · have hjt : hidB (joinS a b) = true := by rw [hid_join, hha]; rfl
              have K5 := Lib.hid (fun w (h : MX w) => Hidden_any (joinS a b) w h (by omega))
              have K6 := Lib.hid (fun w (h : MX w) => Hidden_any a w h (by omega))
              rw [hjt] at K5
              rw [hha] at K6
              clear hjt hha
              go_wp2_with fail
              refine (K5.out _ m4.out).mono ?_
              rintro e wz ⟨rfl, rfl⟩
              go_wp2_with fail
              refine (K6.out _ m4.out).mono ?_
              rintro e wz ⟨rfl, rfl⟩
              go_wp2
              go_ret
              exact ⟨rfl, hbf⟩

end Go.Proofs.YtbdmlenapccdnaaDoor
