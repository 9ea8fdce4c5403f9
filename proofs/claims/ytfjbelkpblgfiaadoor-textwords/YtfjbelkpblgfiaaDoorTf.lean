/- Contracts of text.followers, text.secondRange, text.first. -/
import Derived.Test.YtfjbelkpblgfiaaDoorRows
import Derived.Test.YtfjbelkpblgfiaaDoorTx
import Derived.Test.YtfjbelkpblgfiaaDoorMem
import Derived.WalkKit
import Derived.WalkSpells
import Derived.Lib.Hide
namespace Go.Proofs.YtfjbelkpblgfiaaDoor
open Go.RowKit

theorem ret_i {k : IntKind} {a b : Int} (h : a = b) : Ending.returned (.int k a) = .returned (.int k b) := by rw [h]
theorem ret_ii {k k' : IntKind} {a b c d : Int} (h : a = b) (h' : c = d) : Ending.returned (.tuple #[.int k a, .int k' c]) = .returned (.tuple #[.int k b, .int k' d]) := by rw [h, h']

set_option maxHeartbeats 400000 in
theorem followers_any (l : Int) (w : World) :
    Calls Tryd.prog 29 #[.int .u8 l] w fun e w' => e = .returned (.int .i64 (Tx.more l)) ∧ w = w' := by
  go_enter Tryd.func29, Tryd.ntmps29
  go_wp2
  all_goals
    go_ret
    exact ⟨ret_i (by unfold Tx.more; (repeat' split) <;> first | rfl | (exfalso; omega)), rfl⟩

set_option maxHeartbeats 400000 in
theorem secondRange_any (l : Int) (w : World) :
    Calls Tryd.prog 30 #[.int .u8 l] w fun e w' => e = .returned (.tuple #[.int .u8 (Tx.lo l), .int .u8 (Tx.hi l)]) ∧ w = w' := by
  go_enter Tryd.func30, Tryd.ntmps30
  go_wp2
  all_goals
    go_ret2
    exact ⟨ret_ii (by unfold Tx.lo; simp_all) (by unfold Tx.hi; simp_all), rfl⟩

set_option maxHeartbeats 400000 in
theorem first_ascii (c : Int) (bb off n cap : Nat) (w : World) (hc : w.cell? ⟨bb, off, none⟩ = some (.int .u8 c)) (hn : 0 < n) (h0 : 0 ≤ c) (h1 : c < 128) :
    Calls Tryd.prog 24 #[.slice (some ⟨bb, off, none⟩) n cap] w fun e w' => e = .returned (.tuple #[.int .i32 c, .int .i64 1]) ∧ w = w' := by
  have hwr : wrap32 c = c := by simp only [wrap32]; omega
  go_enter Tryd.func24, Tryd.ntmps24
  go_wp2
  go_ret2
  exact ⟨rfl, rfl⟩

set_option maxHeartbeats 400000 in
theorem first_lone (c : Int) (bb off n cap : Nat) (w : World) (hc : w.cell? ⟨bb, off, none⟩ = some (.int .u8 c)) (hn : 0 < n) (h0 : 128 ≤ c) (h1 : c ≤ 255) (hm : Tx.more c = 0) :
    Calls Tryd.prog 24 #[.slice (some ⟨bb, off, none⟩) n cap] w fun e w' => e = .returned (.tuple #[.int .i32 65533, .int .i64 1]) ∧ w = w' := by
  have C := fun W => followers_any c W
  rw [hm] at C
  have HC := Lib.hid C
  clear C hm
  go_enter Tryd.func24, Tryd.ntmps24
  go_wp2_with (go_at_call 29; refine (HC.out _).mono ?_; rintro e w' ⟨rfl, rfl⟩)
  go_ret2
  exact ⟨rfl, rfl⟩

set_option maxHeartbeats 1000000 in
theorem first_1 (c : Int) (r : List Int) (bb off cap : Nat) (w : World) (hc : w.cell? ⟨bb, off, none⟩ = some (.int .u8 c)) (hr : ∀ i, i < r.length → w.cell? ⟨bb, off + (i + 1), none⟩ = some (.int .u8 (r[i]?.getD 0))) (hbd : ∀ i : Nat, 0 ≤ r[i]?.getD 0 ∧ r[i]?.getD 0 ≤ 255)
    (hl : r.length ≤ 1000000) (h0 : 194 ≤ c) (h1 : c ≤ 223) :
    Calls Tryd.prog 24 #[.slice (some ⟨bb, off, none⟩) (r.length + 1) cap] w fun e w' => e = .returned (.tuple #[.int .i32 (Tx.scan 1 (Tx.lo c) (Tx.hi c) (Tx.base c) 1 r).1, .int .i64 (Tx.scan 1 (Tx.lo c) (Tx.hi c) (Tx.base c) 1 r).2]) ∧ w = w' := by
  have C := fun W => followers_any c W
  have hm : Tx.more c = 1 := by unfold Tx.more; rw [if_pos ⟨h0, h1⟩]
  rw [hm] at C
  have HC := Lib.hid C
  have hbase : c % 32 = Tx.base c := by unfold Tx.base; rw [if_pos (by omega)]; omega
  have HB := Lib.hid hbase
  obtain ⟨res, hres⟩ : ∃ res, Tx.scan 1 (Tx.lo c) (Tx.hi c) (Tx.base c) 1 r = res := ⟨_, rfl⟩
  rw [hres]
  have HR := Lib.hid hres
  have hlo := Tx.lo_bd c
  have hhi := Tx.hi_bd c
  clear C hm hbase hres
  go_enter Tryd.func24, Tryd.ntmps24
  go_wp2_with (first | (go_at_call 29; refine (HC.out _).mono ?_; rintro e w' ⟨rfl, rfl⟩) | (go_at_call 30; refine (secondRange_any c _).mono ?_; rintro e w' ⟨rfl, rfl⟩))
  go_loop [6, 7, 8, 33] (fun a l h i => ∃ (j : Nat) (av lv hv : Int), j ≤ 1 ∧ i = .int .i64 j ∧ a = .int .i32 av ∧ l = .int .u8 lv ∧ h = .int .u8 hv ∧ j ≤ r.length ∧ 128 ≤ lv ∧ hv ≤ 191 ∧ Tx.accOk j av ∧ Tx.scan (1 - j) lv hv av (1 + j) (r.drop j) = res)
    (fun _ _ _ i => 1 - (intOf i).toNat)
  case atStart => exact ⟨0, _, _, _, by omega, rfl, rfl, rfl, rfl, by omega, hlo, hhi, by unfold Tx.accOk; omega, by rw [HB.out]; exact HR.out⟩
  case round =>
    obtain ⟨j, av, lv, hv, hj, rfl, rfl, rfl, rfl, hjr, hlv, hhv, hacc, hsc⟩ := hrel
    have HS := Lib.hid hsc
    have HA := Lib.hid hacc
    have hab := Tx.acc_bd hacc (by omega)
    obtain ⟨ha0, ha1⟩ := hab
    clear hsc hacc
    by_cases hjm : j < 1
    · by_cases hjl : j < r.length
      · have hcj := hr j hjl
        obtain ⟨x, hx⟩ : ∃ x, r[j]?.getD 0 = x := ⟨_, rfl⟩
        have hbx := hbd j
        rw [hx] at hcj hbx
        obtain ⟨hx0, hx1⟩ := hbx
        have hcj2 : w.cell? ⟨bb, off + (j + 1), none⟩ = some (.int .u8 x) := hcj
        have hdr : r.drop j = x :: r.drop (j + 1) := by
          rw [List.drop_eq_getElem_cons hjl]
          congr 1
          rw [List.getElem?_eq_getElem hjl] at hx
          exact hx
        have HD := Lib.hid hdr
        have hne : ((j : Int) + 1 == (r.length : Int) + 1) = false := by simp; omega
        clear hx hr hbd hdr hcj
        by_cases hlow : x < lv
        · go_wp2
          go_ret2
          have := HS.out
          rw [HD.out, show 1 - j = (1 - j - 1) + 1 by omega, Tx.scan, if_pos (.inl hlow)] at this
          exact ⟨by rw [← this]; exact ret_ii rfl (by simp only; omega), rfl⟩
        · by_cases hhigh : hv < x
          · go_wp2
            go_ret2
            have := HS.out
            rw [HD.out, show 1 - j = (1 - j - 1) + 1 by omega, Tx.scan, if_pos (.inr hhigh)] at this
            exact ⟨by rw [← this]; exact ret_ii rfl (by simp only; omega), rfl⟩
          · have hx63 : x % 64 = x - 128 := by omega
            have HX := Lib.hid hx63
            clear hx63
            go_wp2
            go_round
            case rel =>
              refine ⟨j + 1, _, _, _, by omega, by go_num, rfl, rfl, rfl, by omega, by omega, by omega, ?_, ?_⟩
              · rw [HX.out]; exact Tx.acc_step HA.out (by omega) (by omega) (by omega)
              · have := HS.out
                rw [HD.out, show 1 - j = (1 - j - 1) + 1 by omega, Tx.scan, if_neg (by omega)] at this
                rw [HX.out, ← this, show 1 - (j + 1) = 1 - j - 1 by omega, show 1 + (j + 1) = 1 + j + 1 by omega]
            case measure => simp [intOf]; omega
      · have heq : ((j : Int) + 1 == (r.length : Int) + 1) = true := by simp; omega
        have hdr : r.drop j = [] := List.drop_eq_nil_of_le (by omega)
        have HD := Lib.hid hdr
        clear hr hbd hdr
        go_wp2
        go_ret2
        have := HS.out
        rw [HD.out, show 1 - j = (1 - j - 1) + 1 by omega, Tx.scan] at this
        exact ⟨by rw [← this]; exact ret_ii rfl (by simp only; omega), rfl⟩
    · obtain rfl : j = 1 := by omega
      clear hr hbd
      go_wp2
      go_ret2
      have := HS.out
      rw [Nat.sub_self, Tx.scan] at this
      exact ⟨by rw [← this]; exact ret_ii rfl rfl, rfl⟩

set_option maxHeartbeats 1000000 in
theorem first_2 (c : Int) (r : List Int) (bb off cap : Nat) (w : World) (hc : w.cell? ⟨bb, off, none⟩ = some (.int .u8 c)) (hr : ∀ i, i < r.length → w.cell? ⟨bb, off + (i + 1), none⟩ = some (.int .u8 (r[i]?.getD 0))) (hbd : ∀ i : Nat, 0 ≤ r[i]?.getD 0 ∧ r[i]?.getD 0 ≤ 255)
    (hl : r.length ≤ 1000000) (h0 : 224 ≤ c) (h1 : c ≤ 239) :
    Calls Tryd.prog 24 #[.slice (some ⟨bb, off, none⟩) (r.length + 1) cap] w fun e w' => e = .returned (.tuple #[.int .i32 (Tx.scan 2 (Tx.lo c) (Tx.hi c) (Tx.base c) 1 r).1, .int .i64 (Tx.scan 2 (Tx.lo c) (Tx.hi c) (Tx.base c) 1 r).2]) ∧ w = w' := by
  have C := fun W => followers_any c W
  have hm : Tx.more c = 2 := by unfold Tx.more; rw [if_neg (by omega), if_pos ⟨h0, h1⟩]
  rw [hm] at C
  have HC := Lib.hid C
  have hbase : c % 16 = Tx.base c := by unfold Tx.base; rw [if_neg (by omega), if_pos (by omega)]; omega
  have HB := Lib.hid hbase
  obtain ⟨res, hres⟩ : ∃ res, Tx.scan 2 (Tx.lo c) (Tx.hi c) (Tx.base c) 1 r = res := ⟨_, rfl⟩
  rw [hres]
  have HR := Lib.hid hres
  have hlo := Tx.lo_bd c
  have hhi := Tx.hi_bd c
  clear C hm hbase hres
  go_enter Tryd.func24, Tryd.ntmps24
  go_wp2_with (first | (go_at_call 29; refine (HC.out _).mono ?_; rintro e w' ⟨rfl, rfl⟩) | (go_at_call 30; refine (secondRange_any c _).mono ?_; rintro e w' ⟨rfl, rfl⟩))
  go_loop [6, 7, 8, 33] (fun a l h i => ∃ (j : Nat) (av lv hv : Int), j ≤ 2 ∧ i = .int .i64 j ∧ a = .int .i32 av ∧ l = .int .u8 lv ∧ h = .int .u8 hv ∧ j ≤ r.length ∧ 128 ≤ lv ∧ hv ≤ 191 ∧ Tx.accOk j av ∧ Tx.scan (2 - j) lv hv av (1 + j) (r.drop j) = res)
    (fun _ _ _ i => 2 - (intOf i).toNat)
  case atStart => exact ⟨0, _, _, _, by omega, rfl, rfl, rfl, rfl, by omega, hlo, hhi, by unfold Tx.accOk; omega, by rw [HB.out]; exact HR.out⟩
  case round =>
    obtain ⟨j, av, lv, hv, hj, rfl, rfl, rfl, rfl, hjr, hlv, hhv, hacc, hsc⟩ := hrel
    have HS := Lib.hid hsc
    have HA := Lib.hid hacc
    have hab := Tx.acc_bd hacc (by omega)
    obtain ⟨ha0, ha1⟩ := hab
    clear hsc hacc
    by_cases hjm : j < 2
    · by_cases hjl : j < r.length
      · have hcj := hr j hjl
        obtain ⟨x, hx⟩ : ∃ x, r[j]?.getD 0 = x := ⟨_, rfl⟩
        have hbx := hbd j
        rw [hx] at hcj hbx
        obtain ⟨hx0, hx1⟩ := hbx
        have hcj2 : w.cell? ⟨bb, off + (j + 1), none⟩ = some (.int .u8 x) := hcj
        have hdr : r.drop j = x :: r.drop (j + 1) := by
          rw [List.drop_eq_getElem_cons hjl]
          congr 1
          rw [List.getElem?_eq_getElem hjl] at hx
          exact hx
        have HD := Lib.hid hdr
        have hne : ((j : Int) + 1 == (r.length : Int) + 1) = false := by simp; omega
        clear hx hr hbd hdr hcj
        by_cases hlow : x < lv
        · go_wp2
          go_ret2
          have := HS.out
          rw [HD.out, show 2 - j = (2 - j - 1) + 1 by omega, Tx.scan, if_pos (.inl hlow)] at this
          exact ⟨by rw [← this]; exact ret_ii rfl (by simp only; omega), rfl⟩
        · by_cases hhigh : hv < x
          · go_wp2
            go_ret2
            have := HS.out
            rw [HD.out, show 2 - j = (2 - j - 1) + 1 by omega, Tx.scan, if_pos (.inr hhigh)] at this
            exact ⟨by rw [← this]; exact ret_ii rfl (by simp only; omega), rfl⟩
          · have hx63 : x % 64 = x - 128 := by omega
            have HX := Lib.hid hx63
            clear hx63
            go_wp2
            go_round
            case rel =>
              refine ⟨j + 1, _, _, _, by omega, by go_num, rfl, rfl, rfl, by omega, by omega, by omega, ?_, ?_⟩
              · rw [HX.out]; exact Tx.acc_step HA.out (by omega) (by omega) (by omega)
              · have := HS.out
                rw [HD.out, show 2 - j = (2 - j - 1) + 1 by omega, Tx.scan, if_neg (by omega)] at this
                rw [HX.out, ← this, show 2 - (j + 1) = 2 - j - 1 by omega, show 1 + (j + 1) = 1 + j + 1 by omega]
            case measure => simp [intOf]; omega
      · have heq : ((j : Int) + 1 == (r.length : Int) + 1) = true := by simp; omega
        have hdr : r.drop j = [] := List.drop_eq_nil_of_le (by omega)
        have HD := Lib.hid hdr
        clear hr hbd hdr
        go_wp2
        go_ret2
        have := HS.out
        rw [HD.out, show 2 - j = (2 - j - 1) + 1 by omega, Tx.scan] at this
        exact ⟨by rw [← this]; exact ret_ii rfl (by simp only; omega), rfl⟩
    · obtain rfl : j = 2 := by omega
      clear hr hbd
      go_wp2
      go_ret2
      have := HS.out
      rw [Nat.sub_self, Tx.scan] at this
      exact ⟨by rw [← this]; exact ret_ii rfl rfl, rfl⟩

set_option maxHeartbeats 1000000 in
theorem first_3 (c : Int) (r : List Int) (bb off cap : Nat) (w : World) (hc : w.cell? ⟨bb, off, none⟩ = some (.int .u8 c)) (hr : ∀ i, i < r.length → w.cell? ⟨bb, off + (i + 1), none⟩ = some (.int .u8 (r[i]?.getD 0))) (hbd : ∀ i : Nat, 0 ≤ r[i]?.getD 0 ∧ r[i]?.getD 0 ≤ 255)
    (hl : r.length ≤ 1000000) (h0 : 240 ≤ c) (h1 : c ≤ 244) :
    Calls Tryd.prog 24 #[.slice (some ⟨bb, off, none⟩) (r.length + 1) cap] w fun e w' => e = .returned (.tuple #[.int .i32 (Tx.scan 3 (Tx.lo c) (Tx.hi c) (Tx.base c) 1 r).1, .int .i64 (Tx.scan 3 (Tx.lo c) (Tx.hi c) (Tx.base c) 1 r).2]) ∧ w = w' := by
  have C := fun W => followers_any c W
  have hm : Tx.more c = 3 := by unfold Tx.more; rw [if_neg (by omega), if_neg (by omega), if_pos ⟨h0, h1⟩]
  rw [hm] at C
  have HC := Lib.hid C
  have hbase : c % 8 = Tx.base c := by unfold Tx.base; rw [if_neg (by omega), if_neg (by omega)]; omega
  have HB := Lib.hid hbase
  obtain ⟨res, hres⟩ : ∃ res, Tx.scan 3 (Tx.lo c) (Tx.hi c) (Tx.base c) 1 r = res := ⟨_, rfl⟩
  rw [hres]
  have HR := Lib.hid hres
  have hlo := Tx.lo_bd c
  have hhi := Tx.hi_bd c
  clear C hm hbase hres
  go_enter Tryd.func24, Tryd.ntmps24
  go_wp2_with (first | (go_at_call 29; refine (HC.out _).mono ?_; rintro e w' ⟨rfl, rfl⟩) | (go_at_call 30; refine (secondRange_any c _).mono ?_; rintro e w' ⟨rfl, rfl⟩))
  go_loop [6, 7, 8, 33] (fun a l h i => ∃ (j : Nat) (av lv hv : Int), j ≤ 3 ∧ i = .int .i64 j ∧ a = .int .i32 av ∧ l = .int .u8 lv ∧ h = .int .u8 hv ∧ j ≤ r.length ∧ 128 ≤ lv ∧ hv ≤ 191 ∧ Tx.accOk j av ∧ Tx.scan (3 - j) lv hv av (1 + j) (r.drop j) = res)
    (fun _ _ _ i => 3 - (intOf i).toNat)
  case atStart => exact ⟨0, _, _, _, by omega, rfl, rfl, rfl, rfl, by omega, hlo, hhi, by unfold Tx.accOk; omega, by rw [HB.out]; exact HR.out⟩
  case round =>
    obtain ⟨j, av, lv, hv, hj, rfl, rfl, rfl, rfl, hjr, hlv, hhv, hacc, hsc⟩ := hrel
    have HS := Lib.hid hsc
    have HA := Lib.hid hacc
    have hab := Tx.acc_bd hacc (by omega)
    obtain ⟨ha0, ha1⟩ := hab
    clear hsc hacc
    by_cases hjm : j < 3
    · by_cases hjl : j < r.length
      · have hcj := hr j hjl
        obtain ⟨x, hx⟩ : ∃ x, r[j]?.getD 0 = x := ⟨_, rfl⟩
        have hbx := hbd j
        rw [hx] at hcj hbx
        obtain ⟨hx0, hx1⟩ := hbx
        have hcj2 : w.cell? ⟨bb, off + (j + 1), none⟩ = some (.int .u8 x) := hcj
        have hdr : r.drop j = x :: r.drop (j + 1) := by
          rw [List.drop_eq_getElem_cons hjl]
          congr 1
          rw [List.getElem?_eq_getElem hjl] at hx
          exact hx
        have HD := Lib.hid hdr
        have hne : ((j : Int) + 1 == (r.length : Int) + 1) = false := by simp; omega
        clear hx hr hbd hdr hcj
        by_cases hlow : x < lv
        · go_wp2
          go_ret2
          have := HS.out
          rw [HD.out, show 3 - j = (3 - j - 1) + 1 by omega, Tx.scan, if_pos (.inl hlow)] at this
          exact ⟨by rw [← this]; exact ret_ii rfl (by simp only; omega), rfl⟩
        · by_cases hhigh : hv < x
          · go_wp2
            go_ret2
            have := HS.out
            rw [HD.out, show 3 - j = (3 - j - 1) + 1 by omega, Tx.scan, if_pos (.inr hhigh)] at this
            exact ⟨by rw [← this]; exact ret_ii rfl (by simp only; omega), rfl⟩
          · have hx63 : x % 64 = x - 128 := by omega
            have HX := Lib.hid hx63
            clear hx63
            go_wp2
            go_round
            case rel =>
              refine ⟨j + 1, _, _, _, by omega, by go_num, rfl, rfl, rfl, by omega, by omega, by omega, ?_, ?_⟩
              · rw [HX.out]; exact Tx.acc_step HA.out (by omega) (by omega) (by omega)
              · have := HS.out
                rw [HD.out, show 3 - j = (3 - j - 1) + 1 by omega, Tx.scan, if_neg (by omega)] at this
                rw [HX.out, ← this, show 3 - (j + 1) = 3 - j - 1 by omega, show 1 + (j + 1) = 1 + j + 1 by omega]
            case measure => simp [intOf]; omega
      · have heq : ((j : Int) + 1 == (r.length : Int) + 1) = true := by simp; omega
        have hdr : r.drop j = [] := List.drop_eq_nil_of_le (by omega)
        have HD := Lib.hid hdr
        clear hr hbd hdr
        go_wp2
        go_ret2
        have := HS.out
        rw [HD.out, show 3 - j = (3 - j - 1) + 1 by omega, Tx.scan] at this
        exact ⟨by rw [← this]; exact ret_ii rfl (by simp only; omega), rfl⟩
    · obtain rfl : j = 3 := by omega
      clear hr hbd
      go_wp2
      go_ret2
      have := HS.out
      rw [Nat.sub_self, Tx.scan] at this
      exact ⟨by rw [← this]; exact ret_ii rfl rfl, rfl⟩

theorem first_any (b : List Int) (bb off cap : Nat) (w : World) (hb : b ≠ []) (hc : ∀ i, i < b.length → w.cell? ⟨bb, off + i, none⟩ = some (.int .u8 (b[i]?.getD 0))) (hbd : ∀ i : Nat, 0 ≤ b[i]?.getD 0 ∧ b[i]?.getD 0 ≤ 255) (hl : b.length ≤ 1000000) :
    Calls Tryd.prog 24 #[.slice (some ⟨bb, off, none⟩) b.length cap] w fun e w' => e = .returned (.tuple #[.int .i32 (Tx.one b).1, .int .i64 (Tx.one b).2]) ∧ w = w' := by
  cases b with
  | nil => exact absurd rfl hb
  | cons c r =>
    have hc0 : w.cell? ⟨bb, off, none⟩ = some (.int .u8 c) := by simpa using hc 0 (by simp)
    have hcr : ∀ i, i < r.length → w.cell? ⟨bb, off + (i + 1), none⟩ = some (.int .u8 (r[i]?.getD 0)) := fun i hi => by simpa using hc (i + 1) (by simpa using hi)
    have hb0 : 0 ≤ c ∧ c ≤ 255 := by simpa using hbd 0
    have hbr : ∀ i : Nat, 0 ≤ r[i]?.getD 0 ∧ r[i]?.getD 0 ≤ 255 := fun i => by simpa using hbd (i + 1)
    have hlr : r.length ≤ 1000000 := by simp at hl; omega
    simp only [List.length_cons, Tx.one]
    by_cases h1 : c < 128
    · rw [if_pos h1]
      exact first_ascii c bb off _ cap w hc0 (by omega) hb0.1 h1
    · rw [if_neg h1]
      by_cases h2 : Tx.more c = 0
      · rw [if_pos h2]
        exact first_lone c bb off _ cap w hc0 (by omega) (by omega) hb0.2 h2
      · rw [if_neg h2]
        by_cases h3 : 194 ≤ c ∧ c ≤ 223
        · rw [show Tx.more c = 1 by unfold Tx.more; rw [if_pos h3]]
          exact first_1 c r bb off cap w hc0 hcr hbr hlr h3.1 h3.2
        · by_cases h4 : 224 ≤ c ∧ c ≤ 239
          · rw [show Tx.more c = 2 by unfold Tx.more; rw [if_neg h3, if_pos h4]]
            exact first_2 c r bb off cap w hc0 hcr hbr hlr h4.1 h4.2
          · by_cases h5 : 240 ≤ c ∧ c ≤ 244
            · rw [show Tx.more c = 3 by unfold Tx.more; rw [if_neg h3, if_neg h4, if_pos h5]]
              exact first_3 c r bb off cap w hc0 hcr hbr hlr h5.1 h5.2
            · exact absurd (by unfold Tx.more; rw [if_neg h3, if_neg h4, if_neg h5]) h2

end Go.Proofs.YtfjbelkpblgfiaaDoor
