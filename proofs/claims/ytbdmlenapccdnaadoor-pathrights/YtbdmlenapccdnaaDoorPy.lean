/- The law PathRights, walked. -/
import Derived.Test.YtbdmlenapccdnaaDoorPx
namespace Go.Proofs.YtbdmlenapccdnaaDoor
open Go.RowKit

theorem any_take {P : List ByteArray} {i : Nat} {p : ByteArray} (hp : P[i]? = some p) : (P.take (i + 1)).any (fun p => low p.data.toList) = ((P.take i).any (fun p => low p.data.toList) || low p.data.toList) := by
  rw [takeSucc hp, List.any_append]
  simp
theorem low_nil {p : ByteArray} (h : ¬ 0 < p.size) : low p.data.toList = false := by
  have h4 : p.data.toList.length = p.size := Array.length_toList
  have : p.data.toList = [] := List.eq_nil_of_length_eq_zero (by omega)
  rw [this]
  rfl
theorem low_at {p : ByteArray} (h : 0 < p.size) : low p.data.toList = (((p[0]'h).toNat : Int) == 95) := by
  have h4 : p.data.toList.length = p.size := Array.length_toList
  have hh : p.data.toList.head? = some (p[0]'h) := by
    rw [List.head?_eq_getElem?, Array.getElem?_toList, Array.getElem?_eq_getElem (show 0 < p.data.size from h)]
    rfl
  unfold low
  rw [hh, Bool.eq_iff_iff]
  simp
  constructor
  · intro e; rw [e]; rfl
  · intro e
    have : (p[0]'h).toNat = (95 : UInt8).toNat := by
      have h95 : (95 : UInt8).toNat = 95 := rfl
      omega
    exact UInt8.toNat_inj.1 this
theorem flat_succ {P : List ByteArray} {i : Nat} {p : ByteArray} (hp : P[i]? = some p) : flat (P.take (i + 1)) = flat (P.take i) ++ p.data.toList ++ [47] := by
  rw [takeSucc hp]
  unfold flat
  rw [List.flatMap_append]
  simp
theorem app_arr (x : List UInt8) (p : ByteArray) : (⟨x.toArray⟩ : ByteArray) ++ p ++ ⟨#[47]⟩ = ⟨(x ++ p.data.toList ++ [47]).toArray⟩ := by
  apply ByteArray.ext
  apply Array.toList_inj.1
  rw [ByteArray.data_append, Array.toList_append, ByteArray.data_append, Array.toList_append]

set_option maxRecDepth 100000 in
set_option maxHeartbeats 2000000 in
theorem pathRights_law (s : ByteArray) (w : World) (hm : MX w) :
    Calls Tryd.prog 3 #[.string s] w fun e w' => e = .returned (.bool true) ∧ Below w.heap.size w w' := by
  have KH := Lib.hid (head6_any w hm)
  have HM := Lib.hid hm
  clear hm
  go_enter Tryd.func3, Tryd.ntmps3
  go_wp2_with fail
  refine KH.out.mono ?_
  rintro e w1 ⟨rfl, hb1⟩
  have m1 := HM.out.below hb1
  by_cases hl1 : (400 : Int) < (s.size : Int)
  · have hd1 : decide ((400 : Int) < (s.size : Int)) = true := by simpa using hl1
    go_wp2
    go_ret
    exact ⟨rfl, hb1⟩
  have hd1 : decide ((400 : Int) < (s.size : Int)) = false := by simpa using hl1
  have KP := Lib.hid (parts_call s w1 (by omega))
  have hpos := partsL_pos s
  have hbd := partsL_bd s
  have hsz := partsL_sz s
  have hhid := hid_parts s
  have hdir := dir_flat s
  have k1 := fun w (h : MX w) => Right_any s w h (by omega)
  have k2 := fun w => lright_any s w (by omega)
  have k3 := fun w (h : MX w) => Hidden_any s w h (by omega)
  have k4 := fun w (h : MX w) => Page_any s w h (by omega)
  have k5 := fun w => Dir_any s w (by omega)
  have hpg : pageB s = (rightB s && Lib.hasSuffix s.data.toList html && !(hidB s)) := rfl
  rw [hpg] at k4
  rw [hdir] at k5
  generalize rightB s = r at *
  generalize hidB s = hq at *
  obtain ⟨P, hP⟩ : ∃ P, partsL s = P := ⟨_, rfl⟩
  rw [hP] at KP hpos hbd hsz hhid k5
  have K1 := Lib.hid k1
  have K2 := Lib.hid k2
  have K3 := Lib.hid k3
  have K4 := Lib.hid k4
  have K5 := Lib.hid k5
  have HSZ := Lib.hid hsz
  have HHID := Lib.hid hhid
  have M1 := Lib.hid m1
  clear k1 k2 k3 k4 k5 hsz hhid hdir hpg hP m1
  go_wp2_with fail
  refine KP.out.mono ?_
  rintro e w2 ⟨g, c, rfl, ⟨hin, _, _, hc1, hc2⟩, hb2⟩
  have HIN := Lib.hid hin
  have M2 := Lib.hid (M1.out.below hb2)
  have hb12 : Below w.heap.size w w2 := hb1.trans (hb2.mono hb1.size)
  unfold maxLen at hc2
  clear hin hb1 hb2
  go_wp2_with fail
  go_loopw [4, 20] (fun hv iv wr => ∃ i : Nat, i ≤ P.length ∧ iv = .int .i64 i ∧ hv = .bool ((P.take i).any (fun p => low p.data.toList)) ∧ wr = w2) (fun _ iv _ => P.length - (intOf iv).toNat)
  case atStart => exact ⟨0, by omega, rfl, rfl, rfl⟩
  case round =>
    obtain ⟨i, hi, rfl, rfl, hw⟩ := hrel
    replace hw := hw.symm
    subst hw
    by_cases hlt : i < P.length
    · have hl2 : decide ((i : Int) < (P.length : Int)) = true := by simp; omega
      obtain ⟨p, hp⟩ : ∃ p, P[i]? = some p := ⟨_, List.getElem?_eq_getElem hlt⟩
      have hx := HIN.out i p hp
      have HA := Lib.hid (any_take hp)
      generalize (P.take i).any (fun p => low p.data.toList) = q at *
      clear hp
      cases q
      · by_cases h0 : 0 < p.size
        · have hl3 : decide ((0 : Int) < (p.size : Int)) = true := by simp; omega
          have h01 : (0 : Int) < (p.size : Int) := by omega
          have HL := Lib.hid (low_at h0)
          go_wp2
          go_roundw
          case rel =>
            refine ⟨i + 1, by omega, by go_num, ?_, trivial⟩
            rw [HA.out, HL.out]
            simp
          case measure => simp [intOf]; omega
        · have hl3 : decide ((0 : Int) < (p.size : Int)) = false := decide_eq_false (by omega)
          have HL := Lib.hid (low_nil h0)
          go_wp2
          go_roundw
          case rel =>
            refine ⟨i + 1, by omega, by go_num, ?_, trivial⟩
            rw [HA.out, HL.out]
            rfl
          case measure => simp [intOf]; omega
      · go_wp2
        go_roundw
        case rel =>
          refine ⟨i + 1, by omega, by go_num, ?_, trivial⟩
          rw [HA.out]
          rfl
        case measure =>
          simp [intOf]
          omega
    · have hl2 : decide ((i : Int) < (P.length : Int)) = false := by simp; omega
      obtain rfl : i = P.length := by omega
      rw [List.take_length, ← HHID.out]
      clear HHID
      obtain ⟨M, hM⟩ : ∃ M, P.length - 1 = M := ⟨_, rfl⟩
      have hM1 : (P.length : Int) - 1 = (M : Int) := by omega
      have hM0 : (0 : Int) ≤ (M : Int) := by omega
      have hMc : (M : Int) ≤ (c : Int) := by omega
      have hdl : P.dropLast = P.take M := by rw [List.dropLast_eq_take, hM]
      rw [hdl] at K5
      clear hdl
      obtain ⟨hb, HB⟩ : ∃ hb, Lib.hasSuffix s.data.toList html = hb := ⟨_, rfl⟩
      rw [HB] at K4
      have hlong := fun (h : 5 ≤ s.size) => (html_long h).symm.trans HB
      have hshort := fun (h : s.size < 5) => (html_short h).symm.trans HB
      have HLO := Lib.hid hlong
      have HSH := Lib.hid hshort
      clear hlong hshort HB
      by_cases h5 : 5 ≤ s.size
      · have hd5 : decide ((5 : Int) ≤ (s.size : Int)) = true := by simp; omega
        have hh := HLO.out h5
        unfold html at hh
        have h50 : (0 : Int) ≤ (s.size : Int) - 5 := by omega
        have h51 : (s.size : Int) - 5 ≤ (s.size : Int) := by omega
        have h52 : ((s.size : Int) - 5).toNat = s.size - 5 := by omega
        clear HLO HSH
        go_wp2_with fail
        go_loopw [8, 53] (fun dv jv wr => ∃ j : Nat, j ≤ M ∧ jv = .int .i64 j ∧ dv = .string ⟨(flat (P.take j)).toArray⟩ ∧ wr = w2) (fun _ jv _ => M - (intOf jv).toNat)
        case atStart => exact ⟨0, by omega, rfl, rfl, rfl⟩
        case round =>
          obtain ⟨j, hj, rfl, rfl, hw⟩ := hrel
          replace hw := hw.symm
          subst hw
          by_cases hjl : j < M
          · have hl6 : decide ((j : Int) < (M : Int)) = true := decide_eq_true (by omega)
            have hj0 : (0 : Int) ≤ (j : Int) := by omega
            have hj1 : (j : Int) < (M : Int) := by omega
            obtain ⟨p, hp⟩ : ∃ p, P[j]? = some p := ⟨_, List.getElem?_eq_getElem (by omega)⟩
            have hx := HIN.out j p hp
            have hps := HSZ.out p (List.mem_of_getElem? hp)
            have hfl := flat_len (B := 400) (P.take j) (fun q hq => by have := HSZ.out q (List.mem_of_mem_take hq); omega)
            have HF := Lib.hid (show (⟨(flat (P.take j)).toArray⟩ : ByteArray) ++ p ++ ⟨#[47]⟩ = ⟨(flat (P.take (j + 1))).toArray⟩ by rw [flat_succ hp]; exact app_arr _ _)
            have hjb : (P.take j).length * (400 + 1) ≤ 401 * 401 := by
              have : (P.take j).length ≤ 401 := by rw [List.length_take]; omega
              exact Nat.mul_le_mul this (Nat.le_refl _)
            have hXs : (⟨(flat (P.take j)).toArray⟩ : ByteArray).size = (flat (P.take j)).length := by simp [ByteArray.size]
            obtain ⟨X, hX⟩ : ∃ X : ByteArray, ⟨(flat (P.take j)).toArray⟩ = X := ⟨_, rfl⟩
            rw [hX] at hXs HF
            rw [hX]
            have hs1 : X.size + p.size ≤ 9223372036854775807 := by omega
            have hs2 : (X ++ p).size + (⟨#[47]⟩ : ByteArray).size ≤ 9223372036854775807 := by rw [ByteArray.size_append]; show X.size + p.size + 1 ≤ _; omega
            have kA1 := fun (w : World) => run_string_add_sum (P := Tryd.prog) w X p hs1
            have kA2 := fun (w : World) => run_string_add_sum (P := Tryd.prog) w (X ++ p) ⟨#[47]⟩ hs2
            have hn1 : ¬ (9223372036854775807 < X.size + p.size) := by omega
            have hn2 : ¬ (9223372036854775807 < (X ++ p).size + (⟨#[47]⟩ : ByteArray).size) := by omega
            clear hp hfl hjb hXs hX
            go_wp2
            go_roundw
            case rel => exact ⟨j + 1, by omega, by go_num, congrArg Value.string HF.out, trivial⟩
            case measure => simp [intOf]; omega
          · have hl6 : decide ((j : Int) < (M : Int)) = false := decide_eq_false (by omega)
            obtain rfl : j = M := by omega
            obtain ⟨D, hD⟩ : ∃ D : ByteArray, ⟨(flat (P.take j)).toArray⟩ = D := ⟨_, rfl⟩
            rw [hD] at K5
            rw [hD]
            have ts : (D.toList == D.toList) = true := by simp
            clear hD
            cases r <;> cases hb <;> cases hq
            all_goals
              go_wp2_with fail
              refine (K1.out _ M2.out).mono ?_
              rintro e w3 ⟨rfl, hb3⟩
              have M3 := Lib.hid (M2.out.below hb3)
              go_wp2_with fail
              refine (K2.out _).mono ?_
              rintro e w4 ⟨rfl, hb4⟩
              have M4 := Lib.hid (M3.out.below hb4)
              go_wp2_with fail
              refine (K3.out _ M4.out).mono ?_
              rintro e w4 ⟨rfl, rfl⟩
              go_wp2_with fail
              refine (K4.out _ M4.out).mono ?_
              rintro e w5 ⟨rfl, hb5⟩
              go_wp2_with fail
              refine (K2.out _).mono ?_
              rintro e w6 ⟨rfl, hb6⟩
              go_wp2_with fail
              refine (K5.out _).mono ?_
              rintro e w7 ⟨rfl, rfl⟩
              have q3 := hb12.trans (hb3.mono hb12.size)
              have q4 := q3.trans (hb4.mono q3.size)
              have q5 := q4.trans (hb5.mono q4.size)
              have q6 := q5.trans (hb6.mono q5.size)
              go_wp2
              go_ret
              exact ⟨rfl, q6⟩
      · have hd5 : decide ((5 : Int) ≤ (s.size : Int)) = false := decide_eq_false (by omega)
        obtain rfl := HSH.out (by omega)
        clear HLO HSH
        go_wp2_with fail
        go_loopw [8, 53] (fun dv jv wr => ∃ j : Nat, j ≤ M ∧ jv = .int .i64 j ∧ dv = .string ⟨(flat (P.take j)).toArray⟩ ∧ wr = w2) (fun _ jv _ => M - (intOf jv).toNat)
        case atStart => exact ⟨0, by omega, rfl, rfl, rfl⟩
        case round =>
          obtain ⟨j, hj, rfl, rfl, hw⟩ := hrel
          replace hw := hw.symm
          subst hw
          by_cases hjl : j < M
          · have hl6 : decide ((j : Int) < (M : Int)) = true := decide_eq_true (by omega)
            have hj0 : (0 : Int) ≤ (j : Int) := by omega
            have hj1 : (j : Int) < (M : Int) := by omega
            obtain ⟨p, hp⟩ : ∃ p, P[j]? = some p := ⟨_, List.getElem?_eq_getElem (by omega)⟩
            have hx := HIN.out j p hp
            have hps := HSZ.out p (List.mem_of_getElem? hp)
            have hfl := flat_len (B := 400) (P.take j) (fun q hq => by have := HSZ.out q (List.mem_of_mem_take hq); omega)
            have HF := Lib.hid (show (⟨(flat (P.take j)).toArray⟩ : ByteArray) ++ p ++ ⟨#[47]⟩ = ⟨(flat (P.take (j + 1))).toArray⟩ by rw [flat_succ hp]; exact app_arr _ _)
            have hjb : (P.take j).length * (400 + 1) ≤ 401 * 401 := by
              have : (P.take j).length ≤ 401 := by rw [List.length_take]; omega
              exact Nat.mul_le_mul this (Nat.le_refl _)
            have hXs : (⟨(flat (P.take j)).toArray⟩ : ByteArray).size = (flat (P.take j)).length := by simp [ByteArray.size]
            obtain ⟨X, hX⟩ : ∃ X : ByteArray, ⟨(flat (P.take j)).toArray⟩ = X := ⟨_, rfl⟩
            rw [hX] at hXs HF
            rw [hX]
            have hs1 : X.size + p.size ≤ 9223372036854775807 := by omega
            have hs2 : (X ++ p).size + (⟨#[47]⟩ : ByteArray).size ≤ 9223372036854775807 := by rw [ByteArray.size_append]; show X.size + p.size + 1 ≤ _; omega
            have kA1 := fun (w : World) => run_string_add_sum (P := Tryd.prog) w X p hs1
            have kA2 := fun (w : World) => run_string_add_sum (P := Tryd.prog) w (X ++ p) ⟨#[47]⟩ hs2
            have hn1 : ¬ (9223372036854775807 < X.size + p.size) := by omega
            have hn2 : ¬ (9223372036854775807 < (X ++ p).size + (⟨#[47]⟩ : ByteArray).size) := by omega
            clear hp hfl hjb hXs hX
            go_wp2
            go_roundw
            case rel => exact ⟨j + 1, by omega, by go_num, congrArg Value.string HF.out, trivial⟩
            case measure => simp [intOf]; omega
          · have hl6 : decide ((j : Int) < (M : Int)) = false := decide_eq_false (by omega)
            obtain rfl : j = M := by omega
            obtain ⟨D, hD⟩ : ∃ D : ByteArray, ⟨(flat (P.take j)).toArray⟩ = D := ⟨_, rfl⟩
            rw [hD] at K5
            rw [hD]
            have ts : (D.toList == D.toList) = true := by simp
            clear hD
            cases r <;> cases hq
            all_goals
              go_wp2_with fail
              refine (K1.out _ M2.out).mono ?_
              rintro e w3 ⟨rfl, hb3⟩
              have M3 := Lib.hid (M2.out.below hb3)
              go_wp2_with fail
              refine (K2.out _).mono ?_
              rintro e w4 ⟨rfl, hb4⟩
              have M4 := Lib.hid (M3.out.below hb4)
              go_wp2_with fail
              refine (K3.out _ M4.out).mono ?_
              rintro e w4 ⟨rfl, rfl⟩
              go_wp2_with fail
              refine (K4.out _ M4.out).mono ?_
              rintro e w5 ⟨rfl, hb5⟩
              go_wp2_with fail
              refine (K2.out _).mono ?_
              rintro e w6 ⟨rfl, hb6⟩
              go_wp2_with fail
              refine (K5.out _).mono ?_
              rintro e w7 ⟨rfl, rfl⟩
              have q3 := hb12.trans (hb3.mono hb12.size)
              have q4 := q3.trans (hb4.mono q3.size)
              have q5 := q4.trans (hb5.mono q4.size)
              have q6 := q5.trans (hb6.mono q5.size)
              go_wp2
              go_ret
              exact ⟨rfl, q6⟩

end Go.Proofs.YtbdmlenapccdnaaDoor
