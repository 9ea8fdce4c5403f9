/- The contract of chars.Numeric; the law CharsNumeric, walked. -/
import Derived.Test.YtdoglpaggmdnpaaDoorCh
import Derived.Test.YtdoglpaggmdnpaaDoorTk
namespace Go.Proofs.YtdoglpaggmdnpaaDoor
open Go.RowKit

/-- the table lies in block g -/
def WinAt (w : World) : Prop := 0 < w.heap.size ∧ ∀ i, i < 32 → w.cell? ⟨0, i, none⟩ = some (.int .i32 (Cx.windows[i]?.getD 0))
theorem WinAt.below {w w' : World} (h : WinAt w) (hb : Below w.heap.size w w') : WinAt w' :=
  ⟨Nat.lt_of_lt_of_le h.1 hb.size, fun i hi => (hb.cell (p := ⟨0, i, none⟩) h.1).trans (h.2 i hi)⟩

set_option maxRecDepth 100000 in
set_option maxHeartbeats 400000 in
theorem numeric_any (n : Int) (w : World) (hw : WinAt w) (h0 : -9223372036854775808 ≤ n) (h1 : n ≤ 9223372036854775807) :
    Calls Tryd.prog 14 #[.int .i64 n] w fun e w' => e = .returned (.int .i32 (Cx.numeric n)) ∧ w = w' := by
  by_cases ha : n ≤ 0 ∨ 1114112 ≤ n ∨ 55296 ≤ n ∧ n ≤ 57343
  · have hv : Cx.numeric n = 65533 := by unfold Cx.numeric; rw [if_pos ha]
    have HV := Lib.hid hv
    clear hv
    rcases ha with ha | ha | ⟨ha, hb⟩
    all_goals
      go_enter Tryd.func14, Tryd.ntmps14
      go_wp2
      all_goals
        go_ret
        exact ⟨ret_int (by rw [HV.out]), rfl⟩
  · by_cases hb : 128 ≤ n ∧ n ≤ 159
    · obtain ⟨hb1, hb2⟩ := hb
      have hv : Cx.numeric n = Cx.windows[(n - 128).toNat]?.getD 0 := by
        unfold Cx.numeric
        rw [if_neg ha, if_pos ⟨hb1, hb2⟩]
      have HV := Lib.hid hv
      have hc := hw.2 (n - 128).toNat (by omega)
      clear hw h0 h1 ha hv
      go_enter Tryd.func14, Tryd.ntmps14
      go_wp2
      go_ret
      exact ⟨ret_int (by rw [HV.out]), rfl⟩
    · have hv : Cx.numeric n = n := by unfold Cx.numeric; rw [if_neg ha, if_neg hb]
      have HV := Lib.hid hv
      clear hv
      have h2 : 0 < n := by omega
      have h3 : n < 1114112 := by omega
      go_enter Tryd.func14, Tryd.ntmps14
      go_wp2
      all_goals
        go_ret
        exact ⟨ret_int (by rw [HV.out]), rfl⟩

theorem numeric_is (n v : Int) (w : World) (hw : WinAt w) (h0 : -9223372036854775808 ≤ n) (h1 : n ≤ 9223372036854775807) (hv : Cx.numeric n = v) :
    Calls Tryd.prog 14 #[.int .i64 n] w fun e w' => e = .returned (.int .i32 v) ∧ w = w' := hv ▸ numeric_any n w hw h0 h1

set_option maxRecDepth 100000 in
set_option maxHeartbeats 400000 in
theorem numeric_out (n : Int) (w : World) (hw : WinAt w) (h0 : -9223372036854775808 ≤ n) (h1 : n ≤ 9223372036854775807) (ha : n ≤ 0 ∨ 1114112 ≤ n ∨ 55296 ≤ n ∧ n ≤ 57343) :
    Calls Tryd.prog 5 #[.int .i64 n] w fun e w' => e = .returned (.bool true) ∧ Below w.heap.size w w' := by
  have C := fun W (h : WinAt W) => numeric_is n 65533 W h h0 h1 (by unfold Cx.numeric; rw [if_pos ha])
  have HC := Lib.hid C
  clear C h0 h1
  rcases ha with ha | ha | ⟨ha, hb⟩
  all_goals
    go_enter Tryd.func5, Tryd.ntmps5
    go_wp2_with (first | (go_at_call 11; refine (head2_any _).mono ?_; rintro e w1 ⟨rfl, hb1⟩) | (go_at_call 14; refine (HC.out _ (hw.below hb1)).mono ?_; rintro e w2 ⟨rfl, rfl⟩))
    all_goals
      go_ret
      exact ⟨rfl, hb1⟩

set_option maxRecDepth 100000 in
set_option maxHeartbeats 400000 in
theorem numeric_same (n : Int) (w : World) (hw : WinAt w) (ha : 0 < n) (ha2 : n < 1114112) (ha3 : n < 55296 ∨ 57343 < n) (hb : n < 128 ∨ 159 < n) :
    Calls Tryd.prog 5 #[.int .i64 n] w fun e w' => e = .returned (.bool true) ∧ Below w.heap.size w w' := by
  have C := fun W (h : WinAt W) => numeric_is n n W h (by omega) (by omega) (by unfold Cx.numeric; rw [if_neg (by omega), if_neg (by omega)])
  have HC := Lib.hid C
  have hwr : wrap64 n = n := by unfold wrap64; omega
  have hee : (n == n) = true := by simp
  clear C
  rcases ha3 with ha3 | ha3 <;> rcases hb with hb | hb
  all_goals
    go_enter Tryd.func5, Tryd.ntmps5
    go_wp2_with (first | (go_at_call 11; refine (head2_any _).mono ?_; rintro e w1 ⟨rfl, hb1⟩) | (go_at_call 14; refine (HC.out _ (hw.below hb1)).mono ?_; rintro e w2 ⟨rfl, rfl⟩))
    all_goals
      go_ret
      exact ⟨ret_bool (by simp), hb1⟩

def kept : List Int := [129, 141, 143, 144, 157]

set_option maxRecDepth 100000 in
set_option maxHeartbeats 400000 in
theorem numeric_mid (n r : Int) (w : World) (hw : WinAt w) (ha : 128 ≤ n) (ha2 : n ≤ 159) (hr : Cx.numeric n = r) (hr0 : 0 < r) (hr1 : r ≤ 8482) (hk : ∀ j, j < 5 → n = kept[j]?.getD 0 → r = n) (hnk : (∀ j, j < 5 → n ≠ kept[j]?.getD 0) → 255 < r)
    (h8 : (n != 128 || r == 8364) = true) (h9 : (n != 159 || r == 376) = true) (h6 : (n != 146 || r == 8217) = true) :
    Calls Tryd.prog 5 #[.int .i64 n] w fun e w' => e = .returned (.bool true) ∧ Below w.heap.size w w' := by
  have C := fun W (h : WinAt W) => numeric_is n r W h (by omega) (by omega) hr
  have HC := Lib.hid C
  have HK := Lib.hid hk
  have HNK := Lib.hid hnk
  have H8 := Lib.hid h8
  have H9 := Lib.hid h9
  have H6 := Lib.hid h6
  clear C hr hk hnk h8 h9 h6
  go_enter Tryd.func5, Tryd.ntmps5
  go_wp2_with (first | (go_at_call 11; refine (head2_any _).mono ?_; rintro e w1 ⟨rfl, hb1⟩) | (go_at_call 14; refine (HC.out _ (hw.below hb1)).mono ?_; rintro e w2 ⟨rfl, rfl⟩))
  go_loop [38] (fun i => ∃ k : Nat, k ≤ 5 ∧ i = .int .i64 k ∧ ∀ j, j < k → n ≠ kept[j]?.getD 0) (fun i => 5 - (intOf i).toNat)
  case atStart => exact ⟨0, by omega, rfl, fun j hj => absurd hj (by omega)⟩
  case round =>
    obtain ⟨k, hk5, rfl, hne⟩ := hrel
    have HNE := Lib.hid hne
    clear hne
    by_cases hlt : k < 5
    · have hcl : ((w1.alloc (.cells #[.int .i64 129, .int .i64 141, .int .i64 143, .int .i64 144, .int .i64 157] 3)).cell? ⟨w1.heap.size, k, none⟩) = some (.int .i64 (kept[k]?.getD 0)) := by
        rw [World.cell?_alloc_new]
        match k, hlt with
        | 0, _ => rfl
        | 1, _ => rfl
        | 2, _ => rfl
        | 3, _ => rfl
        | 4, _ => rfl
      go_wp2
      · have he : (n == kept[k]?.getD 0) = true := by assumption
        go_ret
        have hrn := HK.out k hlt (eq_of_beq he)
        exact ⟨ret_bool (by rw [hrn]; simp), hb1.alloc hb1.size _⟩
      · have he : (n == kept[k]?.getD 0) = false := by assumption
        go_round
        case rel =>
          refine ⟨k + 1, by omega, by go_num, fun j hj => ?_⟩
          by_cases hjk : j < k
          · exact HNE.out j hjk
          · have : j = k := by omega
            subst this
            simpa using he
        case measure => simp [intOf]; omega
    · have hr255 : 255 < r := HNK.out (fun j hj => HNE.out j (by omega))
      have h8 : n ≠ 128 ∨ r = 8364 := by simpa using H8.out
      have h9 : n ≠ 159 ∨ r = 376 := by simpa using H9.out
      have h6 : n ≠ 146 ∨ r = 8217 := by simpa using H6.out
      have G8 := Lib.hid h8
      have G9 := Lib.hid h9
      have G6 := Lib.hid h6
      clear h8 h9 h6
      go_wp2
      all_goals
        go_ret
        refine ⟨ret_bool ?_, hb1.alloc hb1.size _⟩
        have h8 := G8.out
        have h9 := G9.out
        have h6 := G6.out
        first | rfl | (exfalso; omega) | (simp; omega)

theorem mid_facts : ∀ k : Fin 32, (∀ j, j < 5 → (k.val : Int) + 128 = kept[j]?.getD 0 → Cx.windows[k.val]?.getD 0 = (k.val : Int) + 128) ∧
    ((∀ j, j < 5 → (k.val : Int) + 128 ≠ kept[j]?.getD 0) → 255 < Cx.windows[k.val]?.getD 0) ∧ 0 < Cx.windows[k.val]?.getD 0 ∧ Cx.windows[k.val]?.getD 0 ≤ 8482 ∧
    ((k.val : Int) + 128 != 128 || Cx.windows[k.val]?.getD 0 == 8364) = true ∧ ((k.val : Int) + 128 != 159 || Cx.windows[k.val]?.getD 0 == 376) = true ∧ ((k.val : Int) + 128 != 146 || Cx.windows[k.val]?.getD 0 == 8217) = true := by decide

theorem numeric_law (n : Int) (w : World) (hw : WinAt w) (h0 : -9223372036854775808 ≤ n) (h1 : n ≤ 9223372036854775807) :
    Calls Tryd.prog 5 #[.int .i64 n] w fun e w' => e = .returned (.bool true) ∧ Below w.heap.size w w' := by
  by_cases ha : n ≤ 0 ∨ 1114112 ≤ n ∨ 55296 ≤ n ∧ n ≤ 57343
  · exact numeric_out n w hw h0 h1 ha
  · by_cases hb : 128 ≤ n ∧ n ≤ 159
    · have hn : n = ((n - 128).toNat : Int) + 128 := by omega
      obtain ⟨f1, f2, f3, f4, f5, f6, f7⟩ := mid_facts ⟨(n - 128).toNat, by omega⟩
      simp only [← hn] at f1 f2 f3 f4 f5 f6 f7
      exact numeric_mid n _ w hw hb.1 hb.2 (by unfold Cx.numeric; rw [if_neg ha, if_pos hb]) f3 f4 f1 f2 f5 f6 f7
    · exact numeric_same n w hw (by omega) (by omega) (by omega) (by omega)

end Go.Proofs.YtdoglpaggmdnpaaDoor
