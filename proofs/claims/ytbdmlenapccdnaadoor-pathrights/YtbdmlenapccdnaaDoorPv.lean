/- Contract of the law's own right. -/
import Derived.Test.YtbdmlenapccdnaaDoorPw
import Derived.Laws.OwnMore
namespace Go.Proofs.YtbdmlenapccdnaaDoor
open Go.RowKit

theorem sp_parts (s : ByteArray) : (sp s.data.toList).map toV = (partsL s).map Value.string ∧ (sp s.data.toList).length = (partsL s).length := by
  rw [← partsL_sp]
  refine ⟨?_, by simp⟩
  rw [List.map_map]
  apply List.map_congr_left
  intro p _
  rfl
/-- the law's parts as a row in memory -/
def PartsIn (w : World) (P : List ByteArray) (g c : Nat) (w' : World) : Prop :=
  (∀ i p, P[i]? = some p → w'.cell? ⟨g, i, none⟩ = some (.string p)) ∧ w.heap.size ≤ g ∧ g < w'.heap.size ∧ P.length ≤ c ∧ c ≤ maxLen
theorem parts_call (s : ByteArray) (w : World) (hs : s.size ≤ 1000000) : Calls Tryd.prog 9 #[.string s] w fun e w' => ∃ g c, e = .returned (.slice (some ⟨g, 0, none⟩) (partsL s).length c) ∧ PartsIn w (partsL s) g c w' ∧ Below w.heap.size w w' := by
  refine (parts_any s w hs).mono ?_
  rintro e w' ⟨v, rfl, hown, hb⟩
  obtain ⟨h1, h2⟩ := sp_parts s
  rw [h1, h2] at hown
  have hpos : 0 < (partsL s).length := by rw [partsL_len]; omega
  rcases hown.2 with ⟨_, h0⟩ | ⟨g, c, cur, rfl, hg, hgc, hl, hm, _⟩
  · omega
  · refine ⟨g, c, rfl, ⟨fun i p hp => ?_, hg, (Array.getElem?_eq_some_iff.1 hgc).1, hl, hm⟩, hb⟩
    have hil := (List.getElem?_eq_some_iff.1 hp).1
    rw [hown.cellAt i (by simpa using hil), List.getElem?_map, hp]
    rfl
theorem partsL_pos (s : ByteArray) : 0 < (partsL s).length := by rw [partsL_len]; omega
theorem partsL_bd (s : ByteArray) : (partsL s).length ≤ s.size + 1 := by
  rw [← (sp_parts s).2]
  have h1 := sp_len s.data.toList
  have h3 : s.data.toList.length = s.size := Array.length_toList
  omega
theorem partsL_sz (s : ByteArray) : ∀ p ∈ partsL s, p.size ≤ s.size := by
  intro p hp
  have hm : p.data.toList ∈ sp s.data.toList := by rw [← partsL_sp]; exact List.mem_map.2 ⟨p, hp, rfl⟩
  have h1 := sp_mem _ _ hm
  have h3 : s.data.toList.length = s.size := Array.length_toList
  have h4 : p.data.toList.length = p.size := Array.length_toList
  omega
theorem right_nil : rightB ⟨#[]⟩ = false := by kernel_rfl
theorem right_small {s : ByteArray} (h : s.size < 1) : rightB s = false := by
  have h0 : s = ⟨#[]⟩ := by
    apply ByteArray.ext
    have : s.data.size = 0 := by have : s.data.size = s.size := rfl; omega
    exact Array.eq_empty_of_size_eq_zero this
  subst h0
  exact right_nil

set_option maxRecDepth 100000 in
set_option maxHeartbeats 2000000 in
theorem lright_any (s : ByteArray) (w : World) (hs : s.size ≤ 1000000) : Calls Tryd.prog 11 #[.string s] w fun e w' => e = .returned (.bool (rightB s)) ∧ Below w.heap.size w w' := by
  have KP := Lib.hid (parts_call s w hs)
  have hpos := partsL_pos s
  have hbd := partsL_bd s
  have hsz := partsL_sz s
  have hr : rightB s = (decide (s.size ≤ 200) && decide ((partsL s).length ≤ 16) && (partsL s).all partOk) := rfl
  have hsm := right_small (s := s)
  obtain ⟨r, hrr⟩ : ∃ r, rightB s = r := ⟨_, rfl⟩
  rw [hrr] at hr hsm
  rw [hrr]
  obtain ⟨P, hP⟩ : ∃ P, partsL s = P := ⟨_, rfl⟩
  rw [hP] at KP hpos hbd hr hsz
  have HR := Lib.hid hr
  have HSM := Lib.hid hsm
  have HSZ := Lib.hid hsz
  clear hr hsm hrr hP hsz
  by_cases h1 : s.size < 1
  · obtain rfl := HSM.out h1
    have hd1 : decide ((s.size : Int) < 1) = true := by simp; omega
    clear HR
    go_enter Tryd.func11, Tryd.ntmps11
    go_wp2_with fail
    refine KP.out.mono ?_
    rintro e w1 ⟨g, c, rfl, hin, hb1⟩
    clear hin
    go_wp2
    go_ret
    exact ⟨rfl, hb1⟩
  have hd1 : decide ((s.size : Int) < 1) = false := by simp; omega
  by_cases h2 : 200 < s.size
  · obtain rfl : r = false := by rw [HR.out]; simp; omega
    have hd2 : decide ((200 : Int) < (s.size : Int)) = true := by simp; omega
    clear HR HSM
    go_enter Tryd.func11, Tryd.ntmps11
    go_wp2_with fail
    refine KP.out.mono ?_
    rintro e w1 ⟨g, c, rfl, hin, hb1⟩
    clear hin
    go_wp2
    go_ret
    exact ⟨rfl, hb1⟩
  have hd2 : decide ((200 : Int) < (s.size : Int)) = false := by simp; omega
  by_cases h3 : 16 < P.length
  · obtain rfl : r = false := by rw [HR.out]; simp; omega
    have hd3 : decide ((16 : Int) < (P.length : Int)) = true := by simp; omega
    clear HR HSM
    go_enter Tryd.func11, Tryd.ntmps11
    go_wp2_with fail
    refine KP.out.mono ?_
    rintro e w1 ⟨g, c, rfl, hin, hb1⟩
    clear hin
    go_wp2
    go_ret
    exact ⟨rfl, hb1⟩
  have hd3 : decide ((16 : Int) < (P.length : Int)) = false := by simp; omega
  have hr2 : r = P.all partOk := by
    rw [HR.out, decide_eq_true (show s.size ≤ 200 by omega), decide_eq_true (show P.length ≤ 16 by omega)]
    rfl
  have HR2 := Lib.hid hr2
  clear HR HSM hr2
  go_enter Tryd.func11, Tryd.ntmps11
  go_wp2_with fail
  refine KP.out.mono ?_
  rintro e w1 ⟨g, c, rfl, ⟨hin, _, _, hc1, hc2⟩, hb1⟩
  have HIN := Lib.hid hin
  unfold maxLen at hc2
  clear hin
  go_wp2_with fail
  go_loopw [25] (fun iv wr => ∃ i : Nat, i ≤ P.length ∧ iv = .int .i64 i ∧ (P.take i).all partOk = true ∧ wr = w1) (fun iv _ => P.length - (intOf iv).toNat)
  case atStart => exact ⟨0, by omega, rfl, by simp, rfl⟩
  case round =>
    obtain ⟨i, hi, rfl, hall, hw⟩ := hrel
    replace hw := hw.symm
    subst hw
    by_cases hlt : i < P.length
    · have hl1 : decide ((i : Int) < (P.length : Int)) = true := by simp; omega
      obtain ⟨p, hp⟩ : ∃ p, P[i]? = some p := ⟨_, List.getElem?_eq_getElem hlt⟩
      have hx := HIN.out i p hp
      have hps := HSZ.out p (List.mem_of_getElem? hp)
      have hno : partOk p = false → r = false := fun h => by rw [HR2.out, List.all_eq_false]; exact ⟨p, List.mem_of_getElem? hp, by rw [h]; decide⟩
      have HNO := Lib.hid hno
      have hyes : partOk p = true → (P.take (i + 1)).all partOk = true := fun h => by rw [takeSucc hp, List.all_append, hall]; simp [h]
      have HYES := Lib.hid hyes
      clear hno hyes hall hp
      cases e0 : (p.toList == [])
      · cases e1 : (p.toList == [46])
        · cases e2 : (p.toList == [46, 46])
          · have hpk : partOk p = p.data.toList.all (fun c => okR c.toNat) := by unfold partOk; rw [e0, e1, e2]; rfl
            have HPK := Lib.hid hpk
            clear hpk
            go_wp2_with fail
            go_loopw [6] (fun jv wr => ∃ j : Nat, j ≤ p.size ∧ jv = .int .i64 j ∧ (p.data.toList.take j).all (fun c => okR c.toNat) = true ∧ wr = w1) (fun jv _ => p.size - (intOf jv).toNat)
            case atStart => exact ⟨0, by omega, rfl, by simp, rfl⟩
            case round =>
              obtain ⟨j, hj, rfl, hja, hw⟩ := hrel
              replace hw := hw.symm
              subst hw
              have HJA := Lib.hid hja
              clear hja
              by_cases hjl : j < p.size
              · have hl2 : decide ((j : Int) < (p.size : Int)) = true := by simp; omega
                have hj0 : (0 : Int) ≤ (j : Int) := by omega
                have hj1 : (j : Int) < (p.size : Int) := by omega
                have hbad : okR ((p[j]'hjl).toNat : Int) = false → r = false := fun h => HNO.out (by rw [HPK.out]; exact all_not hjl h)
                have HBAD := Lib.hid hbad
                have hgood : okR ((p[j]'hjl).toNat : Int) = true → (p.data.toList.take (j + 1)).all (fun c => okR c.toNat) = true := fun h => all_take_succ hjl HJA.out h
                have HGOOD := Lib.hid hgood
                clear hbad hgood
                go_wp2
                all_goals first
                  | (refine ⟨⟨j + 1, by omega, by go_num, HGOOD.out ?_, trivial⟩, by simp [intOf]; omega⟩; (first | (simp [okR] <;> omega) | (rename_i hh; simp at hh; simp [okR] <;> omega) | (rename_i hh _; simp at hh; simp [okR] <;> omega) | (rename_i hh _ _; simp at hh; simp [okR] <;> omega) | (rename_i hh _ _ _; simp at hh; simp [okR] <;> omega) | (rename_i hh _ _ _ _; simp at hh; simp [okR] <;> omega)))
                  | (obtain rfl := HBAD.out (by (first | (simp [okR] <;> omega) | (rename_i hh; simp at hh; simp [okR] <;> omega) | (rename_i hh _; simp at hh; simp [okR] <;> omega) | (rename_i hh _ _; simp at hh; simp [okR] <;> omega) | (rename_i hh _ _ _; simp at hh; simp [okR] <;> omega) | (rename_i hh _ _ _ _; simp at hh; simp [okR] <;> omega))); go_ret; exact ⟨rfl, hb1⟩)
              · have hl2 : decide ((j : Int) < (p.size : Int)) = false := by simp; omega
                obtain rfl : j = p.size := by omega
                have hpt : partOk p = true := by
                  rw [HPK.out]
                  have := HJA.out
                  rwa [List.take_of_length_le (by rw [Array.length_toList]; exact Nat.le_refl _)] at this
                have HG := Lib.hid (HYES.out hpt)
                clear hpt
                go_wp2
                go_roundw
                case rel => exact ⟨i + 1, by omega, by go_num, HG.out, trivial⟩
                case measure => simp [intOf]; omega
          · obtain rfl := HNO.out (by unfold partOk; rw [e2]; simp)
            go_wp2
            go_ret
            exact ⟨rfl, hb1⟩
        · obtain rfl := HNO.out (by unfold partOk; rw [e1]; simp)
          go_wp2
          go_ret
          exact ⟨rfl, hb1⟩
      · obtain rfl := HNO.out (by unfold partOk; rw [e0]; simp)
        go_wp2
        go_ret
        exact ⟨rfl, hb1⟩
    · have hl1 : decide ((i : Int) < (P.length : Int)) = false := by simp; omega
      obtain rfl : i = P.length := by omega
      rw [List.take_length] at hall
      have hrt : r = true := by rw [HR2.out, hall]
      subst hrt
      clear hall HR2
      go_wp2
      go_ret
      exact ⟨rfl, hb1⟩

end Go.Proofs.YtbdmlenapccdnaaDoor
