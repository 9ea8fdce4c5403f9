/- The contract of the reference's Lines. -/
import Derived.Test.YtdoglpaggmdnpaaTa
import Derived.Test.YtdoglpaggmdnpaaTz
namespace Go.Proofs.Ytdoglpaggmdnpaa
open Go.RowKit

set_option maxRecDepth 100000 in
set_option maxHeartbeats 2000000 in
theorem lines_any (rs : List Int) (A : Option Addr) (cap : Nat) (w : World) (hr : Rd w .i32 A rs) (hl : rs.length ≤ 1000000) :
    Calls Try.prog 13 #[.slice A rs.length cap] w (Gives .i32 (Tx.lnF rs).1 w) := by
  obtain ⟨i0, hi, hz0, hz1, hz2⟩ := info_parts infoRune
  go_enter Try.func13, Try.ntmps13
  go_wp2
  go_loopw [3, 9] (fun v i wr => ∃ k : Nat, i = .int .i64 k ∧ k ≤ rs.length ∧ wr.ownsRow w.heap.size 21 1 v (Tx.lnF (rs.take k)).1.length ((Tx.lnF (rs.take k)).1.map (Value.int .i32)) ∧ Below w.heap.size w wr)
    (fun _ i _ => rs.length - (intOf i).toNat)
  case atStart => exact ⟨0, rfl, by omega, World.ownsRow_lit w #[] 0 (Nat.le_refl _) (by decide) rfl, (Below.refl _ _).alloc (Nat.le_refl _) _⟩
  case round =>
    obtain ⟨k, rfl, hk, hrow, hB⟩ := hrel
    by_cases hlt : k < rs.length
    · obtain ⟨bb, off, rfl, hbb, hcs⟩ := hr.pos (by omega)
      have hck := (hB.cell (p := ⟨bb, off + k, none⟩) hbb).trans (hcs k hlt)
      have hck1 := (hB.cell (p := ⟨bb, off + (k - 1), none⟩) hbb).trans (hcs (k - 1) (by omega))
      obtain ⟨r, hrr⟩ : ∃ r, rs[k]?.getD 0 = r := ⟨_, rfl⟩
      obtain ⟨q, hqq⟩ : ∃ q, rs[k - 1]?.getD 0 = q := ⟨_, rfl⟩
      rw [hrr] at hck
      rw [hqq] at hck1
      have hsn : Tx.lnF (rs.take (k + 1)) = Tx.lnStep (Tx.lnF (rs.take k)) r := by
        rw [List.take_succ_eq_append_getElem hlt, Tx.lnF_snoc]
        congr 1
        rw [List.getElem?_eq_getElem hlt, Option.getD_some] at hrr
        exact hrr
      have hfl : (Tx.lnF (rs.take k)).2 = decide (0 < k ∧ q = 13) := by
        cases k with
        | zero => simp [Tx.lnF]
        | succ j =>
          rw [List.take_succ_eq_append_getElem (by omega), Tx.lnF_flag]
          simp only [Nat.add_sub_cancel] at hqq
          rw [List.getElem?_eq_getElem (show j < rs.length by omega), Option.getD_some] at hqq
          rw [hqq]
          simp
      have HSN := Lib.hid hsn
      have HFL := Lib.hid hfl
      have hln := Tx.lnF_len (rs.take k)
      have hln2 : (Tx.lnF (rs.take k)).1.length ≤ k := by rw [List.length_take] at hln; omega
      have hbz := hB.size
      clear hsn hfl hcs hrr hqq hr hln
      cases t1 : (r == 13) with
      | true =>
        go_wp2_with (at_builtin; refine wpList_append_own _ rfl _ _ 24 rfl w.heap.size 21 i0 (.int .i32 0) 1 4 Try.underlying24 hi hz0 hz1 hz2 rfl (by decide) _ _ _ rfl (hrow.alloc _) ⟨wr.heap.size, 0, none⟩ 1 1 _ rfl rfl (cell_one_new _ _ _) (by simp [Value.oneCell']) (by unfold maxLen; omega) (by omega) (by simp; omega) ?_; intro v1' w2 hown1 hgrow1 hnn; clear hnn)
        have e1 : (Tx.lnF (rs.take (k + 1))).1 = (Tx.lnF (rs.take k)).1 ++ [10] := by rw [HSN.out]; have := eq_of_beq t1; unfold Tx.lnStep; rw [if_pos this]
        go_roundw
        case rel => exact ⟨k + 1, by go_num, by omega, by rw [e1]; simpa using hown1, (hB.alloc hB.size _).grown hgrow1 (by simp; omega) (fun k e => (hrow.lt k e).1)⟩
        case measure => simp [intOf]; omega
      | false =>
        have n13 : ¬ r = 13 := by simpa using t1
        have N13 := Lib.hid n13
        clear n13
        cases t2 : (r != 10) with
        | true =>
          go_wp2_with (at_builtin; refine wpList_append_own _ rfl _ _ 24 rfl w.heap.size 21 i0 (.int .i32 0) 1 4 Try.underlying24 hi hz0 hz1 hz2 rfl (by decide) _ _ _ rfl (hrow.alloc _) ⟨wr.heap.size, 0, none⟩ 1 1 _ rfl rfl (cell_one_new _ _ _) (by simp [Value.oneCell']) (by unfold maxLen; omega) (by omega) (by simp; omega) ?_; intro v1' w2 hown1 hgrow1 hnn; clear hnn)
          have e1 : (Tx.lnF (rs.take (k + 1))).1 = (Tx.lnF (rs.take k)).1 ++ [r] := by rw [HSN.out]; have : ¬ r = 10 := (by simpa using t2); unfold Tx.lnStep; rw [if_neg N13.out, if_neg (fun h => this h.1)]
          go_roundw
          case rel => exact ⟨k + 1, by go_num, by omega, by rw [e1]; simpa using hown1, (hB.alloc hB.size _).grown hgrow1 (by simp; omega) (fun k e => (hrow.lt k e).1)⟩
          case measure => simp [intOf]; omega
        | false =>
          cases t3 : ((k : Int) == 0) with
          | true =>
            go_wp2_with (at_builtin; refine wpList_append_own _ rfl _ _ 24 rfl w.heap.size 21 i0 (.int .i32 0) 1 4 Try.underlying24 hi hz0 hz1 hz2 rfl (by decide) _ _ _ rfl (hrow.alloc _) ⟨wr.heap.size, 0, none⟩ 1 1 _ rfl rfl (cell_one_new _ _ _) (by simp [Value.oneCell']) (by unfold maxLen; omega) (by omega) (by simp; omega) ?_; intro v1' w2 hown1 hgrow1 hnn; clear hnn)
            have e1 : (Tx.lnF (rs.take (k + 1))).1 = (Tx.lnF (rs.take k)).1 ++ [r] := by rw [HSN.out]; have h0 : ¬ (0 < k ∧ q = 13) := (by have := eq_of_beq t3; omega); unfold Tx.lnStep; rw [if_neg N13.out, if_neg (fun h => by rw [HFL.out] at h; simp at h; omega)]
            go_roundw
            case rel => exact ⟨k + 1, by go_num, by omega, by rw [e1]; simpa using hown1, (hB.alloc hB.size _).grown hgrow1 (by simp; omega) (fun k e => (hrow.lt k e).1)⟩
            case measure => simp [intOf]; omega
          | false =>
            have hk0 : ¬ (k : Int) = 0 := by simpa using t3
            have hk1 : 1 ≤ (k : Int) := by omega
            have hk2 : (k : Int) - 1 < (rs.length : Int) := by omega
            clear hk0
            cases t4 : (q != 13) with
            | true =>
              go_wp2_with (at_builtin; refine wpList_append_own _ rfl _ _ 24 rfl w.heap.size 21 i0 (.int .i32 0) 1 4 Try.underlying24 hi hz0 hz1 hz2 rfl (by decide) _ _ _ rfl (hrow.alloc _) ⟨wr.heap.size, 0, none⟩ 1 1 _ rfl rfl (cell_one_new _ _ _) (by simp [Value.oneCell']) (by unfold maxLen; omega) (by omega) (by simp; omega) ?_; intro v1' w2 hown1 hgrow1 hnn; clear hnn)
              have e1 : (Tx.lnF (rs.take (k + 1))).1 = (Tx.lnF (rs.take k)).1 ++ [r] := by rw [HSN.out]; have h0 : ¬ q = 13 := (by simpa using t4); unfold Tx.lnStep; rw [if_neg N13.out, if_neg (fun h => by rw [HFL.out] at h; simp at h; omega)]
              go_roundw
              case rel => exact ⟨k + 1, by go_num, by omega, by rw [e1]; simpa using hown1, (hB.alloc hB.size _).grown hgrow1 (by simp; omega) (fun k e => (hrow.lt k e).1)⟩
              case measure => simp [intOf]; omega
            | false =>
              go_wp2
              have e1 : (Tx.lnF (rs.take (k + 1))).1 = (Tx.lnF (rs.take k)).1 := by
                rw [HSN.out]
                have h1 : r = 10 := by simpa using t2
                have h2 : ¬ (k : Int) = 0 := by simpa using t3
                have h3 : q = 13 := by simpa using t4
                unfold Tx.lnStep
                rw [if_neg N13.out, if_pos ⟨h1, by rw [HFL.out]; simp; omega⟩]
              go_roundw
              case rel => exact ⟨k + 1, by go_num, by omega, by rw [e1]; exact hrow, hB⟩
              case measure => simp [intOf]; omega
    · go_wp2
      go_ret
      obtain ⟨A', cap', rfl, _, hle, hnone, hrd⟩ := Rd.own hrow
      rw [List.take_of_length_le (by omega)] at *
      exact ⟨A', cap', rfl, hrd, hle, hnone, hB⟩

end Go.Proofs.Ytdoglpaggmdnpaa
