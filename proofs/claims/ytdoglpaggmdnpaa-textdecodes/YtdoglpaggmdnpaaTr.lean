/- Contracts of the reference's size, second, One. -/
import Derived.Test.YtdoglpaggmdnpaaTf
import Derived.Test.YtdoglpaggmdnpaaTy
import Derived.BigQuiet
import Derived.Deep.QuietTactic
namespace Go.Proofs.Ytdoglpaggmdnpaa
open Go.RowKit

def sizeOf1 (c : Int) : Int := if c < 128 then 1 else if Tx.more c = 0 then 0 else (Tx.more c : Int) + 1

set_option maxHeartbeats 400000 in
theorem size_any (l : Int) (w : World) :
    Calls Try.prog 34 #[.int .u8 l] w fun e w' => e = .returned (.int .i64 (sizeOf1 l)) ∧ w = w' := by
  go_enter Try.func34, Try.ntmps34
  go_wp2
  all_goals
    go_ret
    exact ⟨ret_i (by unfold sizeOf1 Tx.more; (repeat' split) <;> first | rfl | (exfalso; omega)), rfl⟩

def secondOk (a b : Int) : Bool := decide (Tx.lo a ≤ b ∧ b ≤ Tx.hi a)
theorem ret_bb {a b : Bool} (h : a = b) : Ending.returned (.bool a) = .returned (.bool b) := by rw [h]

set_option maxHeartbeats 400000 in
theorem second_any (a b : Int) (w : World) :
    Calls Try.prog 35 #[.int .u8 a, .int .u8 b] w fun e w' => e = .returned (.bool (secondOk a b)) ∧ w = w' := by
  go_enter Try.func35, Try.ntmps35
  go_wp2
  all_goals
    go_ret
    exact ⟨ret_bb (by unfold secondOk Tx.lo Tx.hi; rw [Bool.eq_iff_iff]; simp_all; try omega), rfl⟩

theorem quiet_same {P : Program} {f : FuncId} {args : Array Value} {v : Value} (h : ∀ W : World, Calls P f args W fun e w' => e = .returned v ∧ W = w') {w : World} {n : Nat} :
    Calls P f args (w.drewN n) fun e w'' => e = .returned v ∧ ∃ m, w'' = w.drewN m := (h _).mono fun _ _ ⟨he, hm⟩ => ⟨he, n, hm.symm⟩

/-- what One answers -/
def OnePost (x : Int × Nat) (w : World) (e : Ending) (w' : World) : Prop := e = .returned (.tuple #[.int .i32 x.1, .int .i64 x.2]) ∧ ∃ n, w' = w.drewN n

set_option maxRecDepth 100000 in
set_option maxHeartbeats 2000000 in
theorem one_1 (c : Int) (r : List Int) (bb off cap : Nat) (w : World) (hc : w.cell? ⟨bb, off, none⟩ = some (.int .u8 c)) (hr : ∀ i, i < r.length → w.cell? ⟨bb, off + (i + 1), none⟩ = some (.int .u8 (r[i]?.getD 0))) (hbd : ∀ i : Nat, 0 ≤ r[i]?.getD 0 ∧ r[i]?.getD 0 ≤ 255)
    (hl : r.length ≤ 1000000) (h0 : 194 ≤ c) (h1 : c ≤ 223) (hm : Tx.more c = 1) (hbase : Tx.base c = c - 192) :
    Calls Try.prog 26 #[.slice (some ⟨bb, off, none⟩) (r.length + 1) cap] w (OnePost (Tx.scan 1 (Tx.lo c) (Tx.hi c) (Tx.base c) 1 r) w) := by
  have C := fun W => size_any c W
  rw [show sizeOf1 c = 2 by unfold sizeOf1; rw [if_neg (by omega), if_neg (by omega), hm]; rfl] at C
  have HC := Lib.hid C
  have HB := Lib.hid hbase
  obtain ⟨res, hres⟩ : ∃ res, Tx.scan 1 (Tx.lo c) (Tx.hi c) (Tx.base c) 1 r = res := ⟨_, rfl⟩
  rw [hres]
  have HR := Lib.hid hres
  clear C hm hbase hres
  go_enter Try.func26, Try.ntmps26
  go_wp2_with (go_at_call 34; refine (HC.out _).mono ?_; rintro e w' ⟨rfl, rfl⟩)
  go_loopw [5] (fun i wr => ∃ j n : Nat, j ≤ 1 ∧ j ≤ r.length ∧ i = .int .i64 ((j : Int) + 1) ∧ wr = w.drewN n ∧ Tx.accOk j (Tx.acc (Tx.base c) r j) ∧ Tx.scan (1 - j) (Tx.loAt c j) (Tx.hiAt c j) (Tx.acc (Tx.base c) r j) (1 + j) (r.drop j) = res)
    (fun i _ => 2 - (intOf i).toNat)
  case atStart => exact ⟨0, 0, by omega, by omega, rfl, rfl, by unfold Tx.accOk; simp only [Tx.acc, HB.out]; omega, HR.out⟩
  case round =>
    obtain ⟨j, n, hj, hjr, rfl, rfl, hacc, hsc⟩ := hrel
    have HS := Lib.hid hsc
    have HA := Lib.hid hacc
    have hc' : (w.drewN n).cell? ⟨bb, off, none⟩ = some (.int .u8 c) := hc
    have hr' : ∀ i, i < r.length → (w.drewN n).cell? ⟨bb, off + (i + 1), none⟩ = some (.int .u8 (r[i]?.getD 0)) := hr
    obtain ⟨W, hW⟩ : ∃ W, w.drewN n = W := ⟨_, rfl⟩
    rw [hW] at hc' hr'
    rw [hW]
    have HW := Lib.hid hW
    clear hsc hacc hW hc hr
    by_cases hjm : j < 1
    · by_cases hjl : j < r.length
      · have hcj := hr' j hjl
        obtain ⟨x, hx⟩ : ∃ x, r[j]?.getD 0 = x := ⟨_, rfl⟩
        have hbx := hbd j
        rw [hx] at hcj hbx
        obtain ⟨hx0, hx1⟩ := hbx
        have HX := Lib.hid hx
        clear hx hr' hbd
        by_cases hj0 : j = 0
        · subst hj0
          have hcj1 : W.cell? ⟨bb, off + 1, none⟩ = some (.int .u8 x) := by simpa using hcj
          have D := fun W => second_any c x W
          cases hsec : secondOk c x with
          | true =>
            rw [hsec] at D
            have HD := Lib.hid D
            have hok : Tx.lo c ≤ x ∧ x ≤ Tx.hi c := by simpa [secondOk] using hsec
            have HO := Lib.hid hok
            clear D hsec hok hcj
            go_wp2
            go_quiet ((go_at_call 35; exact quiet_same HD.out))
            go_wp2
            go_roundw
            case rel =>
              have hlo := Tx.lo_bd c
              have hhi := Tx.hi_bd c
              have ho := HO.out
              refine ⟨1, n + nq, by omega, by omega, rfl, by rw [← HW.out, World.drewN_drewN], ?_, ?_⟩
              · have := Tx.acc_step HA.out (by omega) (show 128 ≤ x by omega) (show x ≤ 191 by omega)
                simpa [Tx.acc, HX.out] using this
              · rw [← HS.out]
                exact (Tx.scan_next 1 0 c (Tx.base c) 1 r (by omega) hjl (by rw [HX.out]; simp [Tx.loAt]; omega) (by rw [HX.out]; simp [Tx.hiAt]; omega)).symm
            case measure => simp [intOf]
          | false =>
            rw [hsec] at D
            have HD := Lib.hid D
            have hok : ¬ (Tx.lo c ≤ x ∧ x ≤ Tx.hi c) := by simpa [secondOk] using hsec
            have HO := Lib.hid hok
            clear D hsec hok hcj
            go_wp2
            go_quiet ((go_at_call 35; exact quiet_same HD.out))
            go_wp2
            go_ret2
            have ht := HS.out
            rw [Tx.scan_bad 1 0 c (Tx.base c) (1 + 0) r (by omega) hjl (by have := HO.out; rw [HX.out]; simp [Tx.loAt, Tx.hiAt]; omega)] at ht
            exact ⟨by rw [← ht]; exact ret_ii rfl rfl, n + nq, by rw [← HW.out, World.drewN_drewN]⟩
        · exfalso; omega
      · have hd1 : decide ((j : Int) + 1 < (r.length : Int) + 1) = false := by simp; omega
        clear hr' hbd
        go_wp2
        go_ret2
        have ht := HS.out
        rw [Tx.scan_short 1 j c (Tx.base c) (1 + j) r hjm hjl] at ht
        exact ⟨by rw [← ht]; exact ret_ii rfl (by simp only; omega), n, HW.out.symm⟩
    · obtain rfl : j = 1 := by omega
      have hac := Tx.acc_bd HA.out (by omega)
      have hrng := fun i h => Tx.acc_rng (Tx.base c) r (by rw [HB.out]; omega) hbd i h
      have HRG := Lib.hid hrng
      have ht := HS.out
      simp only [Nat.sub_self, Tx.scan] at ht
      have HT := Lib.hid ht
      clear hrng ht
      go_wp2
      go_loop [6, 7] (fun x i => ∃ q : Nat, q ≤ 1 ∧ i = .int .i64 ((q : Int) + 1) ∧ x = .int .i64 (Tx.acc (Tx.base c) r q)) (fun _ i => 2 - (intOf i).toNat)
      case atStart => exact ⟨0, by omega, rfl, by rw [Tx.acc, HB.out]⟩
      case round =>
        obtain ⟨q, hq, rfl, rfl⟩ := hrel
        have hrg := HRG.out q (by omega)
        obtain ⟨hg0, hg1⟩ := hrg
        by_cases hqm : q < 1
        · have hcj := hr' q (by omega)
          obtain ⟨x, hx⟩ : ∃ x, r[q]?.getD 0 = x := ⟨_, rfl⟩
          have hbx := hbd q
          rw [hx] at hcj hbx
          obtain ⟨hx0, hx1⟩ := hbx
          have HX := Lib.hid hx
          clear hx hr' hbd
          go_wp2
          go_round
          case rel => exact ⟨q + 1, by omega, by go_num, by simp only [Tx.acc, HX.out]; congr 1; omega⟩
          case measure => simp [intOf]; omega
        · obtain rfl : q = 1 := by omega
          clear hr' hbd
          go_wp2
          go_ret2
          have ht := HT.out
          exact ⟨by rw [← ht]; exact ret_ii rfl rfl, n, HW.out.symm⟩


set_option maxRecDepth 100000 in
set_option maxHeartbeats 2000000 in
theorem one_2 (c : Int) (r : List Int) (bb off cap : Nat) (w : World) (hc : w.cell? ⟨bb, off, none⟩ = some (.int .u8 c)) (hr : ∀ i, i < r.length → w.cell? ⟨bb, off + (i + 1), none⟩ = some (.int .u8 (r[i]?.getD 0))) (hbd : ∀ i : Nat, 0 ≤ r[i]?.getD 0 ∧ r[i]?.getD 0 ≤ 255)
    (hl : r.length ≤ 1000000) (h0 : 224 ≤ c) (h1 : c ≤ 239) (hm : Tx.more c = 2) (hbase : Tx.base c = c - 224) :
    Calls Try.prog 26 #[.slice (some ⟨bb, off, none⟩) (r.length + 1) cap] w (OnePost (Tx.scan 2 (Tx.lo c) (Tx.hi c) (Tx.base c) 1 r) w) := by
  have C := fun W => size_any c W
  rw [show sizeOf1 c = 3 by unfold sizeOf1; rw [if_neg (by omega), if_neg (by omega), hm]; rfl] at C
  have HC := Lib.hid C
  have HB := Lib.hid hbase
  obtain ⟨res, hres⟩ : ∃ res, Tx.scan 2 (Tx.lo c) (Tx.hi c) (Tx.base c) 1 r = res := ⟨_, rfl⟩
  rw [hres]
  have HR := Lib.hid hres
  clear C hm hbase hres
  go_enter Try.func26, Try.ntmps26
  go_wp2_with (go_at_call 34; refine (HC.out _).mono ?_; rintro e w' ⟨rfl, rfl⟩)
  go_loopw [5] (fun i wr => ∃ j n : Nat, j ≤ 2 ∧ j ≤ r.length ∧ i = .int .i64 ((j : Int) + 1) ∧ wr = w.drewN n ∧ Tx.accOk j (Tx.acc (Tx.base c) r j) ∧ Tx.scan (2 - j) (Tx.loAt c j) (Tx.hiAt c j) (Tx.acc (Tx.base c) r j) (1 + j) (r.drop j) = res)
    (fun i _ => 3 - (intOf i).toNat)
  case atStart => exact ⟨0, 0, by omega, by omega, rfl, rfl, by unfold Tx.accOk; simp only [Tx.acc, HB.out]; omega, HR.out⟩
  case round =>
    obtain ⟨j, n, hj, hjr, rfl, rfl, hacc, hsc⟩ := hrel
    have HS := Lib.hid hsc
    have HA := Lib.hid hacc
    have hc' : (w.drewN n).cell? ⟨bb, off, none⟩ = some (.int .u8 c) := hc
    have hr' : ∀ i, i < r.length → (w.drewN n).cell? ⟨bb, off + (i + 1), none⟩ = some (.int .u8 (r[i]?.getD 0)) := hr
    obtain ⟨W, hW⟩ : ∃ W, w.drewN n = W := ⟨_, rfl⟩
    rw [hW] at hc' hr'
    rw [hW]
    have HW := Lib.hid hW
    clear hsc hacc hW hc hr
    by_cases hjm : j < 2
    · by_cases hjl : j < r.length
      · have hcj := hr' j hjl
        obtain ⟨x, hx⟩ : ∃ x, r[j]?.getD 0 = x := ⟨_, rfl⟩
        have hbx := hbd j
        rw [hx] at hcj hbx
        obtain ⟨hx0, hx1⟩ := hbx
        have HX := Lib.hid hx
        clear hx hr' hbd
        by_cases hj0 : j = 0
        · subst hj0
          have hcj1 : W.cell? ⟨bb, off + 1, none⟩ = some (.int .u8 x) := by simpa using hcj
          have D := fun W => second_any c x W
          cases hsec : secondOk c x with
          | true =>
            rw [hsec] at D
            have HD := Lib.hid D
            have hok : Tx.lo c ≤ x ∧ x ≤ Tx.hi c := by simpa [secondOk] using hsec
            have HO := Lib.hid hok
            clear D hsec hok hcj
            go_wp2
            go_quiet ((go_at_call 35; exact quiet_same HD.out))
            go_wp2
            go_roundw
            case rel =>
              have hlo := Tx.lo_bd c
              have hhi := Tx.hi_bd c
              have ho := HO.out
              refine ⟨1, n + nq, by omega, by omega, rfl, by rw [← HW.out, World.drewN_drewN], ?_, ?_⟩
              · have := Tx.acc_step HA.out (by omega) (show 128 ≤ x by omega) (show x ≤ 191 by omega)
                simpa [Tx.acc, HX.out] using this
              · rw [← HS.out]
                exact (Tx.scan_next 2 0 c (Tx.base c) 1 r (by omega) hjl (by rw [HX.out]; simp [Tx.loAt]; omega) (by rw [HX.out]; simp [Tx.hiAt]; omega)).symm
            case measure => simp [intOf]
          | false =>
            rw [hsec] at D
            have HD := Lib.hid D
            have hok : ¬ (Tx.lo c ≤ x ∧ x ≤ Tx.hi c) := by simpa [secondOk] using hsec
            have HO := Lib.hid hok
            clear D hsec hok hcj
            go_wp2
            go_quiet ((go_at_call 35; exact quiet_same HD.out))
            go_wp2
            go_ret2
            have ht := HS.out
            rw [Tx.scan_bad 2 0 c (Tx.base c) (1 + 0) r (by omega) hjl (by have := HO.out; rw [HX.out]; simp [Tx.loAt, Tx.hiAt]; omega)] at ht
            exact ⟨by rw [← ht]; exact ret_ii rfl rfl, n + nq, by rw [← HW.out, World.drewN_drewN]⟩
        · have hk1 : ((j : Int) + 1 == 1) = false := by simp; omega
          have hk2 : 1 < (j : Int) + 1 := by omega
          by_cases hlow : x < 128
          · go_wp2
            go_quiet (fail)
            go_wp2
            go_ret2
            have ht := HS.out
            rw [Tx.scan_bad 2 j c (Tx.base c) (1 + j) r hjm hjl (.inl (by rw [HX.out]; simp [Tx.loAt, hj0]; omega))] at ht
            exact ⟨by rw [← ht]; exact ret_ii rfl (by simp only; omega), n + nq, by rw [← HW.out, World.drewN_drewN]⟩
          · have hd1 : decide (x < 128) = false := by simpa using hlow
            by_cases hhigh : 191 < x
            · go_wp2
              go_quiet (fail)
              go_wp2
              go_ret2
              have ht := HS.out
              rw [Tx.scan_bad 2 j c (Tx.base c) (1 + j) r hjm hjl (.inr (by rw [HX.out]; simp [Tx.hiAt, hj0]; omega))] at ht
              exact ⟨by rw [← ht]; exact ret_ii rfl (by simp only; omega), n + nq, by rw [← HW.out, World.drewN_drewN]⟩
            · go_wp2
              go_quiet (fail)
              go_wp2
              go_roundw
              case rel =>
                refine ⟨j + 1, n + nq, by omega, by omega, by go_num, by rw [← HW.out, World.drewN_drewN], ?_, ?_⟩
                · have := Tx.acc_step HA.out (by omega) (show 128 ≤ x by omega) (show x ≤ 191 by omega)
                  simpa [Tx.acc, HX.out] using this
                · rw [← HS.out]
                  exact (Tx.scan_next 2 j c (Tx.base c) (1 + j) r hjm hjl (by rw [HX.out]; simp [Tx.loAt, hj0]; omega) (by rw [HX.out]; simp [Tx.hiAt, hj0]; omega)).symm
              case measure => simp [intOf]; omega
      · have hd1 : decide ((j : Int) + 1 < (r.length : Int) + 1) = false := by simp; omega
        clear hr' hbd
        go_wp2
        go_ret2
        have ht := HS.out
        rw [Tx.scan_short 2 j c (Tx.base c) (1 + j) r hjm hjl] at ht
        exact ⟨by rw [← ht]; exact ret_ii rfl (by simp only; omega), n, HW.out.symm⟩
    · obtain rfl : j = 2 := by omega
      have hac := Tx.acc_bd HA.out (by omega)
      have hrng := fun i h => Tx.acc_rng (Tx.base c) r (by rw [HB.out]; omega) hbd i h
      have HRG := Lib.hid hrng
      have ht := HS.out
      simp only [Nat.sub_self, Tx.scan] at ht
      have HT := Lib.hid ht
      clear hrng ht
      go_wp2
      go_loop [6, 7] (fun x i => ∃ q : Nat, q ≤ 2 ∧ i = .int .i64 ((q : Int) + 1) ∧ x = .int .i64 (Tx.acc (Tx.base c) r q)) (fun _ i => 3 - (intOf i).toNat)
      case atStart => exact ⟨0, by omega, rfl, by rw [Tx.acc, HB.out]⟩
      case round =>
        obtain ⟨q, hq, rfl, rfl⟩ := hrel
        have hrg := HRG.out q (by omega)
        obtain ⟨hg0, hg1⟩ := hrg
        by_cases hqm : q < 2
        · have hcj := hr' q (by omega)
          obtain ⟨x, hx⟩ : ∃ x, r[q]?.getD 0 = x := ⟨_, rfl⟩
          have hbx := hbd q
          rw [hx] at hcj hbx
          obtain ⟨hx0, hx1⟩ := hbx
          have HX := Lib.hid hx
          clear hx hr' hbd
          go_wp2
          go_round
          case rel => exact ⟨q + 1, by omega, by go_num, by simp only [Tx.acc, HX.out]; congr 1; omega⟩
          case measure => simp [intOf]; omega
        · obtain rfl : q = 2 := by omega
          clear hr' hbd
          go_wp2
          go_ret2
          have ht := HT.out
          exact ⟨by rw [← ht]; exact ret_ii rfl rfl, n, HW.out.symm⟩


set_option maxRecDepth 100000 in
set_option maxHeartbeats 2000000 in
theorem one_3 (c : Int) (r : List Int) (bb off cap : Nat) (w : World) (hc : w.cell? ⟨bb, off, none⟩ = some (.int .u8 c)) (hr : ∀ i, i < r.length → w.cell? ⟨bb, off + (i + 1), none⟩ = some (.int .u8 (r[i]?.getD 0))) (hbd : ∀ i : Nat, 0 ≤ r[i]?.getD 0 ∧ r[i]?.getD 0 ≤ 255)
    (hl : r.length ≤ 1000000) (h0 : 240 ≤ c) (h1 : c ≤ 244) (hm : Tx.more c = 3) (hbase : Tx.base c = c - 240) :
    Calls Try.prog 26 #[.slice (some ⟨bb, off, none⟩) (r.length + 1) cap] w (OnePost (Tx.scan 3 (Tx.lo c) (Tx.hi c) (Tx.base c) 1 r) w) := by
  have C := fun W => size_any c W
  rw [show sizeOf1 c = 4 by unfold sizeOf1; rw [if_neg (by omega), if_neg (by omega), hm]; rfl] at C
  have HC := Lib.hid C
  have HB := Lib.hid hbase
  obtain ⟨res, hres⟩ : ∃ res, Tx.scan 3 (Tx.lo c) (Tx.hi c) (Tx.base c) 1 r = res := ⟨_, rfl⟩
  rw [hres]
  have HR := Lib.hid hres
  clear C hm hbase hres
  go_enter Try.func26, Try.ntmps26
  go_wp2_with (go_at_call 34; refine (HC.out _).mono ?_; rintro e w' ⟨rfl, rfl⟩)
  go_loopw [5] (fun i wr => ∃ j n : Nat, j ≤ 3 ∧ j ≤ r.length ∧ i = .int .i64 ((j : Int) + 1) ∧ wr = w.drewN n ∧ Tx.accOk j (Tx.acc (Tx.base c) r j) ∧ Tx.scan (3 - j) (Tx.loAt c j) (Tx.hiAt c j) (Tx.acc (Tx.base c) r j) (1 + j) (r.drop j) = res)
    (fun i _ => 4 - (intOf i).toNat)
  case atStart => exact ⟨0, 0, by omega, by omega, rfl, rfl, by unfold Tx.accOk; simp only [Tx.acc, HB.out]; omega, HR.out⟩
  case round =>
    obtain ⟨j, n, hj, hjr, rfl, rfl, hacc, hsc⟩ := hrel
    have HS := Lib.hid hsc
    have HA := Lib.hid hacc
    have hc' : (w.drewN n).cell? ⟨bb, off, none⟩ = some (.int .u8 c) := hc
    have hr' : ∀ i, i < r.length → (w.drewN n).cell? ⟨bb, off + (i + 1), none⟩ = some (.int .u8 (r[i]?.getD 0)) := hr
    obtain ⟨W, hW⟩ : ∃ W, w.drewN n = W := ⟨_, rfl⟩
    rw [hW] at hc' hr'
    rw [hW]
    have HW := Lib.hid hW
    clear hsc hacc hW hc hr
    by_cases hjm : j < 3
    · by_cases hjl : j < r.length
      · have hcj := hr' j hjl
        obtain ⟨x, hx⟩ : ∃ x, r[j]?.getD 0 = x := ⟨_, rfl⟩
        have hbx := hbd j
        rw [hx] at hcj hbx
        obtain ⟨hx0, hx1⟩ := hbx
        have HX := Lib.hid hx
        clear hx hr' hbd
        by_cases hj0 : j = 0
        · subst hj0
          have hcj1 : W.cell? ⟨bb, off + 1, none⟩ = some (.int .u8 x) := by simpa using hcj
          have D := fun W => second_any c x W
          cases hsec : secondOk c x with
          | true =>
            rw [hsec] at D
            have HD := Lib.hid D
            have hok : Tx.lo c ≤ x ∧ x ≤ Tx.hi c := by simpa [secondOk] using hsec
            have HO := Lib.hid hok
            clear D hsec hok hcj
            go_wp2
            go_quiet ((go_at_call 35; exact quiet_same HD.out))
            go_wp2
            go_roundw
            case rel =>
              have hlo := Tx.lo_bd c
              have hhi := Tx.hi_bd c
              have ho := HO.out
              refine ⟨1, n + nq, by omega, by omega, rfl, by rw [← HW.out, World.drewN_drewN], ?_, ?_⟩
              · have := Tx.acc_step HA.out (by omega) (show 128 ≤ x by omega) (show x ≤ 191 by omega)
                simpa [Tx.acc, HX.out] using this
              · rw [← HS.out]
                exact (Tx.scan_next 3 0 c (Tx.base c) 1 r (by omega) hjl (by rw [HX.out]; simp [Tx.loAt]; omega) (by rw [HX.out]; simp [Tx.hiAt]; omega)).symm
            case measure => simp [intOf]
          | false =>
            rw [hsec] at D
            have HD := Lib.hid D
            have hok : ¬ (Tx.lo c ≤ x ∧ x ≤ Tx.hi c) := by simpa [secondOk] using hsec
            have HO := Lib.hid hok
            clear D hsec hok hcj
            go_wp2
            go_quiet ((go_at_call 35; exact quiet_same HD.out))
            go_wp2
            go_ret2
            have ht := HS.out
            rw [Tx.scan_bad 3 0 c (Tx.base c) (1 + 0) r (by omega) hjl (by have := HO.out; rw [HX.out]; simp [Tx.loAt, Tx.hiAt]; omega)] at ht
            exact ⟨by rw [← ht]; exact ret_ii rfl rfl, n + nq, by rw [← HW.out, World.drewN_drewN]⟩
        · have hk1 : ((j : Int) + 1 == 1) = false := by simp; omega
          have hk2 : 1 < (j : Int) + 1 := by omega
          by_cases hlow : x < 128
          · go_wp2
            go_quiet (fail)
            go_wp2
            go_ret2
            have ht := HS.out
            rw [Tx.scan_bad 3 j c (Tx.base c) (1 + j) r hjm hjl (.inl (by rw [HX.out]; simp [Tx.loAt, hj0]; omega))] at ht
            exact ⟨by rw [← ht]; exact ret_ii rfl (by simp only; omega), n + nq, by rw [← HW.out, World.drewN_drewN]⟩
          · have hd1 : decide (x < 128) = false := by simpa using hlow
            by_cases hhigh : 191 < x
            · go_wp2
              go_quiet (fail)
              go_wp2
              go_ret2
              have ht := HS.out
              rw [Tx.scan_bad 3 j c (Tx.base c) (1 + j) r hjm hjl (.inr (by rw [HX.out]; simp [Tx.hiAt, hj0]; omega))] at ht
              exact ⟨by rw [← ht]; exact ret_ii rfl (by simp only; omega), n + nq, by rw [← HW.out, World.drewN_drewN]⟩
            · go_wp2
              go_quiet (fail)
              go_wp2
              go_roundw
              case rel =>
                refine ⟨j + 1, n + nq, by omega, by omega, by go_num, by rw [← HW.out, World.drewN_drewN], ?_, ?_⟩
                · have := Tx.acc_step HA.out (by omega) (show 128 ≤ x by omega) (show x ≤ 191 by omega)
                  simpa [Tx.acc, HX.out] using this
                · rw [← HS.out]
                  exact (Tx.scan_next 3 j c (Tx.base c) (1 + j) r hjm hjl (by rw [HX.out]; simp [Tx.loAt, hj0]; omega) (by rw [HX.out]; simp [Tx.hiAt, hj0]; omega)).symm
              case measure => simp [intOf]; omega
      · have hd1 : decide ((j : Int) + 1 < (r.length : Int) + 1) = false := by simp; omega
        clear hr' hbd
        go_wp2
        go_ret2
        have ht := HS.out
        rw [Tx.scan_short 3 j c (Tx.base c) (1 + j) r hjm hjl] at ht
        exact ⟨by rw [← ht]; exact ret_ii rfl (by simp only; omega), n, HW.out.symm⟩
    · obtain rfl : j = 3 := by omega
      have hac := Tx.acc_bd HA.out (by omega)
      have hrng := fun i h => Tx.acc_rng (Tx.base c) r (by rw [HB.out]; omega) hbd i h
      have HRG := Lib.hid hrng
      have ht := HS.out
      simp only [Nat.sub_self, Tx.scan] at ht
      have HT := Lib.hid ht
      clear hrng ht
      go_wp2
      go_loop [6, 7] (fun x i => ∃ q : Nat, q ≤ 3 ∧ i = .int .i64 ((q : Int) + 1) ∧ x = .int .i64 (Tx.acc (Tx.base c) r q)) (fun _ i => 4 - (intOf i).toNat)
      case atStart => exact ⟨0, by omega, rfl, by rw [Tx.acc, HB.out]⟩
      case round =>
        obtain ⟨q, hq, rfl, rfl⟩ := hrel
        have hrg := HRG.out q (by omega)
        obtain ⟨hg0, hg1⟩ := hrg
        by_cases hqm : q < 3
        · have hcj := hr' q (by omega)
          obtain ⟨x, hx⟩ : ∃ x, r[q]?.getD 0 = x := ⟨_, rfl⟩
          have hbx := hbd q
          rw [hx] at hcj hbx
          obtain ⟨hx0, hx1⟩ := hbx
          have HX := Lib.hid hx
          clear hx hr' hbd
          go_wp2
          go_round
          case rel => exact ⟨q + 1, by omega, by go_num, by simp only [Tx.acc, HX.out]; congr 1; omega⟩
          case measure => simp [intOf]; omega
        · obtain rfl : q = 3 := by omega
          clear hr' hbd
          go_wp2
          go_ret2
          have ht := HT.out
          exact ⟨by rw [← ht]; exact ret_ii rfl rfl, n, HW.out.symm⟩


set_option maxHeartbeats 1000000 in
theorem one_ascii (c : Int) (bb off n cap : Nat) (w : World) (hc : w.cell? ⟨bb, off, none⟩ = some (.int .u8 c)) (hn : 0 < n) (_hn2 : n ≤ 1000001) (h0 : 0 ≤ c) (h1 : c < 128) :
    Calls Try.prog 26 #[.slice (some ⟨bb, off, none⟩) n cap] w (OnePost (c, 1) w) := by
  have C := fun W => size_any c W
  rw [show sizeOf1 c = 1 by unfold sizeOf1; rw [if_pos h1]] at C
  have HC := Lib.hid C
  clear C
  go_enter Try.func26, Try.ntmps26
  go_wp2_with (go_at_call 34; refine (HC.out _).mono ?_; rintro e w' ⟨rfl, rfl⟩)
  go_loop [5] (fun i => i = .int .i64 1) (fun _ => 0)
  case atStart => rfl
  case round =>
    obtain rfl := hrel
    go_wp2
    go_loop [6, 7] (fun x i => x = .int .i64 c ∧ i = .int .i64 1) (fun _ _ => 0)
    case atStart => exact ⟨rfl, rfl⟩
    case round =>
      obtain ⟨rfl, rfl⟩ := hrel
      go_wp2
      go_ret2
      exact ⟨rfl, 0, rfl⟩

set_option maxHeartbeats 400000 in
theorem one_lone (c : Int) (bb off n cap : Nat) (w : World) (hc : w.cell? ⟨bb, off, none⟩ = some (.int .u8 c)) (hn : 0 < n) (h0 : 128 ≤ c) (hm : Tx.more c = 0) :
    Calls Try.prog 26 #[.slice (some ⟨bb, off, none⟩) n cap] w (OnePost (65533, 1) w) := by
  have C := fun W => size_any c W
  rw [show sizeOf1 c = 0 by unfold sizeOf1; rw [if_neg (by omega), if_pos hm]] at C
  have HC := Lib.hid C
  clear C hm
  go_enter Try.func26, Try.ntmps26
  go_wp2_with (go_at_call 34; refine (HC.out _).mono ?_; rintro e w' ⟨rfl, rfl⟩)
  go_ret2
  exact ⟨rfl, 0, rfl⟩

theorem one_any (b : List Int) (bb off cap : Nat) (w : World) (hb : b ≠ []) (hc : ∀ i, i < b.length → w.cell? ⟨bb, off + i, none⟩ = some (.int .u8 (b[i]?.getD 0))) (hbd : ∀ i : Nat, 0 ≤ b[i]?.getD 0 ∧ b[i]?.getD 0 ≤ 255) (hl : b.length ≤ 1000000) :
    Calls Try.prog 26 #[.slice (some ⟨bb, off, none⟩) b.length cap] w (OnePost (Tx.one b) w) := by
  cases b with
  | nil => exact absurd rfl hb
  | cons c r =>
    have hc0 : w.cell? ⟨bb, off, none⟩ = some (.int .u8 c) := by simpa using hc 0 (by simp)
    have hcr : ∀ i, i < r.length → w.cell? ⟨bb, off + (i + 1), none⟩ = some (.int .u8 (r[i]?.getD 0)) := fun i hi => by simpa using hc (i + 1) (by simpa using hi)
    have hb0 : 0 ≤ c ∧ c ≤ 255 := by simpa using hbd 0
    have hbr : ∀ i : Nat, 0 ≤ r[i]?.getD 0 ∧ r[i]?.getD 0 ≤ 255 := fun i => by simpa using hbd (i + 1)
    have hlr : r.length ≤ 1000000 := by simp at hl; omega
    simp only [List.length_cons, Tx.one]
    by_cases h1 : c < 128
    · rw [if_pos h1]
      exact one_ascii c bb off _ cap w hc0 (by omega) (by omega) hb0.1 h1
    · rw [if_neg h1]
      by_cases h2 : Tx.more c = 0
      · rw [if_pos h2]
        exact one_lone c bb off _ cap w hc0 (by omega) (by omega) h2
      · rw [if_neg h2]
        by_cases h3 : 194 ≤ c ∧ c ≤ 223
        · have hm : Tx.more c = 1 := by unfold Tx.more; rw [if_pos h3]
          rw [hm]
          exact one_1 c r bb off cap w hc0 hcr hbr hlr h3.1 h3.2 hm (by unfold Tx.base; rw [if_pos (by omega)])
        · by_cases h4 : 224 ≤ c ∧ c ≤ 239
          · have hm : Tx.more c = 2 := by unfold Tx.more; rw [if_neg h3, if_pos h4]
            rw [hm]
            exact one_2 c r bb off cap w hc0 hcr hbr hlr h4.1 h4.2 hm (by unfold Tx.base; rw [if_neg (by omega), if_pos (by omega)])
          · by_cases h5 : 240 ≤ c ∧ c ≤ 244
            · have hm : Tx.more c = 3 := by unfold Tx.more; rw [if_neg h3, if_neg h4, if_pos h5]
              rw [hm]
              exact one_3 c r bb off cap w hc0 hcr hbr hlr h5.1 h5.2 hm (by unfold Tx.base; rw [if_neg (by omega), if_neg (by omega)])
            · exact absurd (by unfold Tx.more; rw [if_neg h3, if_neg h4, if_neg h5]) h2

end Go.Proofs.Ytdoglpaggmdnpaa
