/- The law TextKinds, walked. -/
import Derived.Test.YtdoglpaggmdnpaaTh
import Derived.Test.YtdoglpaggmdnpaaTkl
namespace Go.Proofs.Ytdoglpaggmdnpaa
open Go.RowKit
namespace Kx

def xs : List Int := [48, 49, 50, 51, 52, 53, 54, 55, 56, 57, 97, 98, 99, 100, 101, 102]
/-- the digit's value among the first k -/
def hx (r : Int) (k : Nat) : Int := if 0 ≤ Tx.hex r ∧ Tx.hex r < k then Tx.hex r else -1
theorem xs_fin : ∀ k : Fin 16, xs[k.val]?.getD 0 = if k.val < 10 then 48 + (k.val : Int) else 87 + (k.val : Int) := by decide
theorem xs_at (k : Nat) (h : k < 16) : xs[k]?.getD 0 = if k < 10 then 48 + (k : Int) else 87 + (k : Int) := xs_fin ⟨k, h⟩
theorem hx_zero (r : Int) : hx r 0 = -1 := by unfold hx; rw [if_neg (by omega)]
theorem xs_bd (k : Nat) (h : k < 16) : 48 ≤ xs[k]?.getD 0 ∧ xs[k]?.getD 0 ≤ 102 := by rw [xs_at k h]; split <;> omega
theorem hx_hit (r : Int) (k : Nat) (h : Tx.hex r = k) : hx r (k + 1) = k := by
  unfold hx; rw [if_pos (by omega), h]
theorem hx_miss (r : Int) (k : Nat) (h : Tx.hex r ≠ k) : hx r (k + 1) = hx r k := by
  unfold hx
  by_cases h1 : 0 ≤ Tx.hex r ∧ Tx.hex r < k
  · rw [if_pos h1, if_pos (by omega)]
  · rw [if_neg h1, if_neg (by omega)]
theorem hx_all (r : Int) : hx r 16 = Tx.hex r := by
  have h : -1 ≤ Tx.hex r ∧ Tx.hex r ≤ 15 := by unfold Tx.hex; (repeat' split) <;> omega
  unfold hx
  split <;> omega
theorem hit1 (r x : Int) (k : Nat) (hk : k < 16) (hx : xs[k]?.getD 0 = x) (h : r = x) : Tx.hex r = k := by
  rw [xs_at k hk] at hx
  unfold Tx.hex
  split at hx <;> (repeat' split) <;> omega
theorem hit2 (r x : Int) (k : Nat) (hk : k < 16) (hx : xs[k]?.getD 0 = x) (h0 : 65 ≤ r) (h1 : r ≤ 70) (h : r + 32 = x) : Tx.hex r = k := by
  rw [xs_at k hk] at hx
  unfold Tx.hex
  split at hx <;> (repeat' split) <;> omega
theorem miss (r x : Int) (k : Nat) (hk : k < 16) (hx : xs[k]?.getD 0 = x) (h : ¬ r = x) (h2 : ¬ (65 ≤ r ∧ r ≤ 70 ∧ r + 32 = x)) : Tx.hex r ≠ k := by
  rw [xs_at k hk] at hx
  unfold Tx.hex
  split at hx <;> (repeat' split) <;> omega
theorem hit1' (r x : Int) (k : Nat) (hk : k < 16) (hx : xs[k]?.getD 0 = x) (h : (r == x) = true) : Tx.hex r = k := hit1 r x k hk hx (eq_of_beq h)
theorem hit2' (r x : Int) (k : Nat) (hk : k < 16) (hx : xs[k]?.getD 0 = x) (h0 : 65 ≤ r) (h1 : r ≤ 70) (h : (r + 32 == x) = true) : Tx.hex r = k := hit2 r x k hk hx h0 h1 (eq_of_beq h)
theorem miss' (r x : Int) (k : Nat) (hk : k < 16) (hx : xs[k]?.getD 0 = x) (h : (r == x) = false) (h2 : (r + 32 == x) = false ∨ r < 65 ∨ 70 < r) : Tx.hex r ≠ k :=
  miss r x k hk hx (by simpa using h) (by
    rintro ⟨h3, h4, h5⟩
    rcases h2 with h2 | h2 | h2
    · rw [h5] at h2; simp at h2
    · omega
    · omega)

end Kx

theorem ret_b {a b : Bool} (h : a = b) : Ending.returned (.bool a) = .returned (.bool b) := by rw [h]

theorem cell16 (w : World) (k : Nat) (hk : k < 16) : (w.alloc (.cells #[.int .i32 48, .int .i32 49, .int .i32 50, .int .i32 51, .int .i32 52, .int .i32 53, .int .i32 54, .int .i32 55, .int .i32 56, .int .i32 57, .int .i32 97, .int .i32 98, .int .i32 99, .int .i32 100, .int .i32 101, .int .i32 102] 21)).cell? ⟨w.heap.size, k, none⟩ = some (.int .i32 (Kx.xs[k]?.getD 0)) := by
  rw [World.cell?_alloc_new]
  show (Kx.xs.map (Value.int .i32)).toArray[k]? = _
  have hl : k < Kx.xs.length := hk
  simp [List.getElem?_eq_getElem hl]

set_option maxRecDepth 100000 in
set_option maxHeartbeats 1000000 in
theorem kinds_0 (r : Int) (w : World) (ha : -2147483648 ≤ r) (hb : r ≤ 8) :
    Calls Try.prog 6 #[.int .i32 r] w fun e w' => e = .returned (.bool true) ∧ Below w.heap.size w w' := by
  have hbl : Tx.blank r = false := by simp [Tx.blank]; omega
  have hlt : Tx.letter r = false := by simp [Tx.letter]; omega
  have hdg : Tx.digit r = false := by simp [Tx.digit]; omega
  have hsm : Tx.small r = r := by unfold Tx.small; split <;> omega
  have C1 := fun W => blank_any r W
  have C2 := fun W => letter_any r W (by omega) (by omega)
  have C3 := fun W => digit_any r W
  have C4 := fun W => hex_any r W (by omega) (by omega)
  have C5 := fun W => small_any r W (by omega) (by omega)
  rw [hbl] at C1
  rw [hlt] at C2
  rw [hdg] at C3
  rw [hsm] at C5
  have H1 := Lib.hid C1
  have H2 := Lib.hid C2
  have H3 := Lib.hid C3
  have H4 := Lib.hid C4
  have H5 := Lib.hid C5
  clear C1 C2 C3 C4 C5 hbl hlt hdg hsm
  have e1 : (Tx.hex r == Tx.hex r) = true := by simp
  have e2 : (r == r) = true := by simp
  have d9 : (r == 9) = false := by simp; omega
  have d10 : (r == 10) = false := by simp; omega
  have d12 : (r == 12) = false := by simp; omega
  have d13 : (r == 13) = false := by simp; omega
  have d32 : (r == 32) = false := by simp; omega
  have l57 : decide (r ≤ 57) = true := by simp; omega
  have l90 : decide (r ≤ 90) = true := by simp; omega
  have l122 : decide (r ≤ 122) = true := by simp; omega
  have l70 : decide (r ≤ 70) = true := by simp; omega
  go_enter Try.func6, Try.ntmps6
  go_wp2_with (go_at_call 10; refine (head1_any _).mono ?_; rintro e w1 ⟨rfl, hb1⟩)
  go_loop [7, 51] (fun v i => ∃ k : Nat, k ≤ 16 ∧ i = .int .i64 k ∧ v = .int .i64 (Kx.hx r k)) (fun _ i => 16 - (intOf i).toNat)
  case atStart => exact ⟨0, by omega, rfl, by rw [Kx.hx_zero]⟩
  case round =>
    obtain ⟨k, hk, rfl, rfl⟩ := hrel
    by_cases hlt : k < 16
    · have hck := cell16 w1 k hlt
      obtain ⟨x, hx⟩ : ∃ x, Kx.xs[k]?.getD 0 = x := ⟨_, rfl⟩
      have hxb := Kx.xs_bd k hlt
      rw [hx] at hck hxb
      have HX := Lib.hid hx
      clear hx
      cases q1 : (r == x) with
      | true =>
        go_wp2
        go_round
        case rel => exact ⟨k + 1, by omega, by go_num, by rw [Kx.hx_hit r k (Kx.hit1' r x k hlt HX.out q1)]⟩
        case measure => simp [intOf]; omega
      | false =>
        cases q2 : (r + 32 == x) with
        | true =>
          go_wp2
          go_round
          case rel => exact ⟨k + 1, by omega, by go_num, by rw [Kx.hx_miss r k (Kx.miss' r x k hlt HX.out q1 (.inr (by omega)))]⟩
          case measure => simp [intOf]; omega
        | false =>
          go_wp2
          go_round
          case rel => exact ⟨k + 1, by omega, by go_num, by rw [Kx.hx_miss r k (Kx.miss' r x k hlt HX.out q1 (.inl q2))]⟩
          case measure => simp [intOf]; omega
    · obtain rfl : k = 16 := by omega
      rw [Kx.hx_all]
      go_wp2_with (first | (go_at_call 18; refine (H1.out _).mono ?_; rintro e w' ⟨rfl, rfl⟩) | (go_at_call 19; refine (H2.out _).mono ?_; rintro e w' ⟨rfl, rfl⟩) | (go_at_call 20; refine (H3.out _).mono ?_; rintro e w' ⟨rfl, rfl⟩) | (go_at_call 21; refine (H4.out _).mono ?_; rintro e w' ⟨rfl, rfl⟩) | (go_at_call 22; refine (H5.out _).mono ?_; rintro e w' ⟨rfl, rfl⟩))
      go_ret
      exact ⟨rfl, hb1.alloc hb1.size _⟩

set_option maxRecDepth 100000 in
set_option maxHeartbeats 1000000 in
theorem kinds_1 (r : Int) (w : World) (ha : 9 ≤ r) (hb : r ≤ 9) :
    Calls Try.prog 6 #[.int .i32 r] w fun e w' => e = .returned (.bool true) ∧ Below w.heap.size w w' := by
  have hbl : Tx.blank r = true := by simp [Tx.blank]; omega
  have hlt : Tx.letter r = false := by simp [Tx.letter]; omega
  have hdg : Tx.digit r = false := by simp [Tx.digit]; omega
  have hsm : Tx.small r = r := by unfold Tx.small; split <;> omega
  have C1 := fun W => blank_any r W
  have C2 := fun W => letter_any r W (by omega) (by omega)
  have C3 := fun W => digit_any r W
  have C4 := fun W => hex_any r W (by omega) (by omega)
  have C5 := fun W => small_any r W (by omega) (by omega)
  rw [hbl] at C1
  rw [hlt] at C2
  rw [hdg] at C3
  rw [hsm] at C5
  have H1 := Lib.hid C1
  have H2 := Lib.hid C2
  have H3 := Lib.hid C3
  have H4 := Lib.hid C4
  have H5 := Lib.hid C5
  clear C1 C2 C3 C4 C5 hbl hlt hdg hsm
  have e1 : (Tx.hex r == Tx.hex r) = true := by simp
  have e2 : (r == r) = true := by simp
  have d9 : (r == 9) = true := by simp; omega
  have d10 : (r == 10) = false := by simp; omega
  have d12 : (r == 12) = false := by simp; omega
  have d13 : (r == 13) = false := by simp; omega
  have d32 : (r == 32) = false := by simp; omega
  have l57 : decide (r ≤ 57) = true := by simp; omega
  have l90 : decide (r ≤ 90) = true := by simp; omega
  have l122 : decide (r ≤ 122) = true := by simp; omega
  have l70 : decide (r ≤ 70) = true := by simp; omega
  go_enter Try.func6, Try.ntmps6
  go_wp2_with (go_at_call 10; refine (head1_any _).mono ?_; rintro e w1 ⟨rfl, hb1⟩)
  go_loop [7, 51] (fun v i => ∃ k : Nat, k ≤ 16 ∧ i = .int .i64 k ∧ v = .int .i64 (Kx.hx r k)) (fun _ i => 16 - (intOf i).toNat)
  case atStart => exact ⟨0, by omega, rfl, by rw [Kx.hx_zero]⟩
  case round =>
    obtain ⟨k, hk, rfl, rfl⟩ := hrel
    by_cases hlt : k < 16
    · have hck := cell16 w1 k hlt
      obtain ⟨x, hx⟩ : ∃ x, Kx.xs[k]?.getD 0 = x := ⟨_, rfl⟩
      have hxb := Kx.xs_bd k hlt
      rw [hx] at hck hxb
      have HX := Lib.hid hx
      clear hx
      cases q1 : (r == x) with
      | true =>
        go_wp2
        go_round
        case rel => exact ⟨k + 1, by omega, by go_num, by rw [Kx.hx_hit r k (Kx.hit1' r x k hlt HX.out q1)]⟩
        case measure => simp [intOf]; omega
      | false =>
        cases q2 : (r + 32 == x) with
        | true =>
          go_wp2
          go_round
          case rel => exact ⟨k + 1, by omega, by go_num, by rw [Kx.hx_miss r k (Kx.miss' r x k hlt HX.out q1 (.inr (by omega)))]⟩
          case measure => simp [intOf]; omega
        | false =>
          go_wp2
          go_round
          case rel => exact ⟨k + 1, by omega, by go_num, by rw [Kx.hx_miss r k (Kx.miss' r x k hlt HX.out q1 (.inl q2))]⟩
          case measure => simp [intOf]; omega
    · obtain rfl : k = 16 := by omega
      rw [Kx.hx_all]
      go_wp2_with (first | (go_at_call 18; refine (H1.out _).mono ?_; rintro e w' ⟨rfl, rfl⟩) | (go_at_call 19; refine (H2.out _).mono ?_; rintro e w' ⟨rfl, rfl⟩) | (go_at_call 20; refine (H3.out _).mono ?_; rintro e w' ⟨rfl, rfl⟩) | (go_at_call 21; refine (H4.out _).mono ?_; rintro e w' ⟨rfl, rfl⟩) | (go_at_call 22; refine (H5.out _).mono ?_; rintro e w' ⟨rfl, rfl⟩))
      go_ret
      exact ⟨rfl, hb1.alloc hb1.size _⟩

set_option maxRecDepth 100000 in
set_option maxHeartbeats 1000000 in
theorem kinds_2 (r : Int) (w : World) (ha : 10 ≤ r) (hb : r ≤ 10) :
    Calls Try.prog 6 #[.int .i32 r] w fun e w' => e = .returned (.bool true) ∧ Below w.heap.size w w' := by
  have hbl : Tx.blank r = true := by simp [Tx.blank]; omega
  have hlt : Tx.letter r = false := by simp [Tx.letter]; omega
  have hdg : Tx.digit r = false := by simp [Tx.digit]; omega
  have hsm : Tx.small r = r := by unfold Tx.small; split <;> omega
  have C1 := fun W => blank_any r W
  have C2 := fun W => letter_any r W (by omega) (by omega)
  have C3 := fun W => digit_any r W
  have C4 := fun W => hex_any r W (by omega) (by omega)
  have C5 := fun W => small_any r W (by omega) (by omega)
  rw [hbl] at C1
  rw [hlt] at C2
  rw [hdg] at C3
  rw [hsm] at C5
  have H1 := Lib.hid C1
  have H2 := Lib.hid C2
  have H3 := Lib.hid C3
  have H4 := Lib.hid C4
  have H5 := Lib.hid C5
  clear C1 C2 C3 C4 C5 hbl hlt hdg hsm
  have e1 : (Tx.hex r == Tx.hex r) = true := by simp
  have e2 : (r == r) = true := by simp
  have d9 : (r == 9) = false := by simp; omega
  have d10 : (r == 10) = true := by simp; omega
  have d12 : (r == 12) = false := by simp; omega
  have d13 : (r == 13) = false := by simp; omega
  have d32 : (r == 32) = false := by simp; omega
  have l57 : decide (r ≤ 57) = true := by simp; omega
  have l90 : decide (r ≤ 90) = true := by simp; omega
  have l122 : decide (r ≤ 122) = true := by simp; omega
  have l70 : decide (r ≤ 70) = true := by simp; omega
  go_enter Try.func6, Try.ntmps6
  go_wp2_with (go_at_call 10; refine (head1_any _).mono ?_; rintro e w1 ⟨rfl, hb1⟩)
  go_loop [7, 51] (fun v i => ∃ k : Nat, k ≤ 16 ∧ i = .int .i64 k ∧ v = .int .i64 (Kx.hx r k)) (fun _ i => 16 - (intOf i).toNat)
  case atStart => exact ⟨0, by omega, rfl, by rw [Kx.hx_zero]⟩
  case round =>
    obtain ⟨k, hk, rfl, rfl⟩ := hrel
    by_cases hlt : k < 16
    · have hck := cell16 w1 k hlt
      obtain ⟨x, hx⟩ : ∃ x, Kx.xs[k]?.getD 0 = x := ⟨_, rfl⟩
      have hxb := Kx.xs_bd k hlt
      rw [hx] at hck hxb
      have HX := Lib.hid hx
      clear hx
      cases q1 : (r == x) with
      | true =>
        go_wp2
        go_round
        case rel => exact ⟨k + 1, by omega, by go_num, by rw [Kx.hx_hit r k (Kx.hit1' r x k hlt HX.out q1)]⟩
        case measure => simp [intOf]; omega
      | false =>
        cases q2 : (r + 32 == x) with
        | true =>
          go_wp2
          go_round
          case rel => exact ⟨k + 1, by omega, by go_num, by rw [Kx.hx_miss r k (Kx.miss' r x k hlt HX.out q1 (.inr (by omega)))]⟩
          case measure => simp [intOf]; omega
        | false =>
          go_wp2
          go_round
          case rel => exact ⟨k + 1, by omega, by go_num, by rw [Kx.hx_miss r k (Kx.miss' r x k hlt HX.out q1 (.inl q2))]⟩
          case measure => simp [intOf]; omega
    · obtain rfl : k = 16 := by omega
      rw [Kx.hx_all]
      go_wp2_with (first | (go_at_call 18; refine (H1.out _).mono ?_; rintro e w' ⟨rfl, rfl⟩) | (go_at_call 19; refine (H2.out _).mono ?_; rintro e w' ⟨rfl, rfl⟩) | (go_at_call 20; refine (H3.out _).mono ?_; rintro e w' ⟨rfl, rfl⟩) | (go_at_call 21; refine (H4.out _).mono ?_; rintro e w' ⟨rfl, rfl⟩) | (go_at_call 22; refine (H5.out _).mono ?_; rintro e w' ⟨rfl, rfl⟩))
      go_ret
      exact ⟨rfl, hb1.alloc hb1.size _⟩

set_option maxRecDepth 100000 in
set_option maxHeartbeats 1000000 in
theorem kinds_3 (r : Int) (w : World) (ha : 11 ≤ r) (hb : r ≤ 11) :
    Calls Try.prog 6 #[.int .i32 r] w fun e w' => e = .returned (.bool true) ∧ Below w.heap.size w w' := by
  have hbl : Tx.blank r = false := by simp [Tx.blank]; omega
  have hlt : Tx.letter r = false := by simp [Tx.letter]; omega
  have hdg : Tx.digit r = false := by simp [Tx.digit]; omega
  have hsm : Tx.small r = r := by unfold Tx.small; split <;> omega
  have C1 := fun W => blank_any r W
  have C2 := fun W => letter_any r W (by omega) (by omega)
  have C3 := fun W => digit_any r W
  have C4 := fun W => hex_any r W (by omega) (by omega)
  have C5 := fun W => small_any r W (by omega) (by omega)
  rw [hbl] at C1
  rw [hlt] at C2
  rw [hdg] at C3
  rw [hsm] at C5
  have H1 := Lib.hid C1
  have H2 := Lib.hid C2
  have H3 := Lib.hid C3
  have H4 := Lib.hid C4
  have H5 := Lib.hid C5
  clear C1 C2 C3 C4 C5 hbl hlt hdg hsm
  have e1 : (Tx.hex r == Tx.hex r) = true := by simp
  have e2 : (r == r) = true := by simp
  have d9 : (r == 9) = false := by simp; omega
  have d10 : (r == 10) = false := by simp; omega
  have d12 : (r == 12) = false := by simp; omega
  have d13 : (r == 13) = false := by simp; omega
  have d32 : (r == 32) = false := by simp; omega
  have l57 : decide (r ≤ 57) = true := by simp; omega
  have l90 : decide (r ≤ 90) = true := by simp; omega
  have l122 : decide (r ≤ 122) = true := by simp; omega
  have l70 : decide (r ≤ 70) = true := by simp; omega
  go_enter Try.func6, Try.ntmps6
  go_wp2_with (go_at_call 10; refine (head1_any _).mono ?_; rintro e w1 ⟨rfl, hb1⟩)
  go_loop [7, 51] (fun v i => ∃ k : Nat, k ≤ 16 ∧ i = .int .i64 k ∧ v = .int .i64 (Kx.hx r k)) (fun _ i => 16 - (intOf i).toNat)
  case atStart => exact ⟨0, by omega, rfl, by rw [Kx.hx_zero]⟩
  case round =>
    obtain ⟨k, hk, rfl, rfl⟩ := hrel
    by_cases hlt : k < 16
    · have hck := cell16 w1 k hlt
      obtain ⟨x, hx⟩ : ∃ x, Kx.xs[k]?.getD 0 = x := ⟨_, rfl⟩
      have hxb := Kx.xs_bd k hlt
      rw [hx] at hck hxb
      have HX := Lib.hid hx
      clear hx
      cases q1 : (r == x) with
      | true =>
        go_wp2
        go_round
        case rel => exact ⟨k + 1, by omega, by go_num, by rw [Kx.hx_hit r k (Kx.hit1' r x k hlt HX.out q1)]⟩
        case measure => simp [intOf]; omega
      | false =>
        cases q2 : (r + 32 == x) with
        | true =>
          go_wp2
          go_round
          case rel => exact ⟨k + 1, by omega, by go_num, by rw [Kx.hx_miss r k (Kx.miss' r x k hlt HX.out q1 (.inr (by omega)))]⟩
          case measure => simp [intOf]; omega
        | false =>
          go_wp2
          go_round
          case rel => exact ⟨k + 1, by omega, by go_num, by rw [Kx.hx_miss r k (Kx.miss' r x k hlt HX.out q1 (.inl q2))]⟩
          case measure => simp [intOf]; omega
    · obtain rfl : k = 16 := by omega
      rw [Kx.hx_all]
      go_wp2_with (first | (go_at_call 18; refine (H1.out _).mono ?_; rintro e w' ⟨rfl, rfl⟩) | (go_at_call 19; refine (H2.out _).mono ?_; rintro e w' ⟨rfl, rfl⟩) | (go_at_call 20; refine (H3.out _).mono ?_; rintro e w' ⟨rfl, rfl⟩) | (go_at_call 21; refine (H4.out _).mono ?_; rintro e w' ⟨rfl, rfl⟩) | (go_at_call 22; refine (H5.out _).mono ?_; rintro e w' ⟨rfl, rfl⟩))
      go_ret
      exact ⟨rfl, hb1.alloc hb1.size _⟩

set_option maxRecDepth 100000 in
set_option maxHeartbeats 1000000 in
theorem kinds_4 (r : Int) (w : World) (ha : 12 ≤ r) (hb : r ≤ 12) :
    Calls Try.prog 6 #[.int .i32 r] w fun e w' => e = .returned (.bool true) ∧ Below w.heap.size w w' := by
  have hbl : Tx.blank r = true := by simp [Tx.blank]; omega
  have hlt : Tx.letter r = false := by simp [Tx.letter]; omega
  have hdg : Tx.digit r = false := by simp [Tx.digit]; omega
  have hsm : Tx.small r = r := by unfold Tx.small; split <;> omega
  have C1 := fun W => blank_any r W
  have C2 := fun W => letter_any r W (by omega) (by omega)
  have C3 := fun W => digit_any r W
  have C4 := fun W => hex_any r W (by omega) (by omega)
  have C5 := fun W => small_any r W (by omega) (by omega)
  rw [hbl] at C1
  rw [hlt] at C2
  rw [hdg] at C3
  rw [hsm] at C5
  have H1 := Lib.hid C1
  have H2 := Lib.hid C2
  have H3 := Lib.hid C3
  have H4 := Lib.hid C4
  have H5 := Lib.hid C5
  clear C1 C2 C3 C4 C5 hbl hlt hdg hsm
  have e1 : (Tx.hex r == Tx.hex r) = true := by simp
  have e2 : (r == r) = true := by simp
  have d9 : (r == 9) = false := by simp; omega
  have d10 : (r == 10) = false := by simp; omega
  have d12 : (r == 12) = true := by simp; omega
  have d13 : (r == 13) = false := by simp; omega
  have d32 : (r == 32) = false := by simp; omega
  have l57 : decide (r ≤ 57) = true := by simp; omega
  have l90 : decide (r ≤ 90) = true := by simp; omega
  have l122 : decide (r ≤ 122) = true := by simp; omega
  have l70 : decide (r ≤ 70) = true := by simp; omega
  go_enter Try.func6, Try.ntmps6
  go_wp2_with (go_at_call 10; refine (head1_any _).mono ?_; rintro e w1 ⟨rfl, hb1⟩)
  go_loop [7, 51] (fun v i => ∃ k : Nat, k ≤ 16 ∧ i = .int .i64 k ∧ v = .int .i64 (Kx.hx r k)) (fun _ i => 16 - (intOf i).toNat)
  case atStart => exact ⟨0, by omega, rfl, by rw [Kx.hx_zero]⟩
  case round =>
    obtain ⟨k, hk, rfl, rfl⟩ := hrel
    by_cases hlt : k < 16
    · have hck := cell16 w1 k hlt
      obtain ⟨x, hx⟩ : ∃ x, Kx.xs[k]?.getD 0 = x := ⟨_, rfl⟩
      have hxb := Kx.xs_bd k hlt
      rw [hx] at hck hxb
      have HX := Lib.hid hx
      clear hx
      cases q1 : (r == x) with
      | true =>
        go_wp2
        go_round
        case rel => exact ⟨k + 1, by omega, by go_num, by rw [Kx.hx_hit r k (Kx.hit1' r x k hlt HX.out q1)]⟩
        case measure => simp [intOf]; omega
      | false =>
        cases q2 : (r + 32 == x) with
        | true =>
          go_wp2
          go_round
          case rel => exact ⟨k + 1, by omega, by go_num, by rw [Kx.hx_miss r k (Kx.miss' r x k hlt HX.out q1 (.inr (by omega)))]⟩
          case measure => simp [intOf]; omega
        | false =>
          go_wp2
          go_round
          case rel => exact ⟨k + 1, by omega, by go_num, by rw [Kx.hx_miss r k (Kx.miss' r x k hlt HX.out q1 (.inl q2))]⟩
          case measure => simp [intOf]; omega
    · obtain rfl : k = 16 := by omega
      rw [Kx.hx_all]
      go_wp2_with (first | (go_at_call 18; refine (H1.out _).mono ?_; rintro e w' ⟨rfl, rfl⟩) | (go_at_call 19; refine (H2.out _).mono ?_; rintro e w' ⟨rfl, rfl⟩) | (go_at_call 20; refine (H3.out _).mono ?_; rintro e w' ⟨rfl, rfl⟩) | (go_at_call 21; refine (H4.out _).mono ?_; rintro e w' ⟨rfl, rfl⟩) | (go_at_call 22; refine (H5.out _).mono ?_; rintro e w' ⟨rfl, rfl⟩))
      go_ret
      exact ⟨rfl, hb1.alloc hb1.size _⟩

set_option maxRecDepth 100000 in
set_option maxHeartbeats 1000000 in
theorem kinds_5 (r : Int) (w : World) (ha : 13 ≤ r) (hb : r ≤ 13) :
    Calls Try.prog 6 #[.int .i32 r] w fun e w' => e = .returned (.bool true) ∧ Below w.heap.size w w' := by
  have hbl : Tx.blank r = true := by simp [Tx.blank]; omega
  have hlt : Tx.letter r = false := by simp [Tx.letter]; omega
  have hdg : Tx.digit r = false := by simp [Tx.digit]; omega
  have hsm : Tx.small r = r := by unfold Tx.small; split <;> omega
  have C1 := fun W => blank_any r W
  have C2 := fun W => letter_any r W (by omega) (by omega)
  have C3 := fun W => digit_any r W
  have C4 := fun W => hex_any r W (by omega) (by omega)
  have C5 := fun W => small_any r W (by omega) (by omega)
  rw [hbl] at C1
  rw [hlt] at C2
  rw [hdg] at C3
  rw [hsm] at C5
  have H1 := Lib.hid C1
  have H2 := Lib.hid C2
  have H3 := Lib.hid C3
  have H4 := Lib.hid C4
  have H5 := Lib.hid C5
  clear C1 C2 C3 C4 C5 hbl hlt hdg hsm
  have e1 : (Tx.hex r == Tx.hex r) = true := by simp
  have e2 : (r == r) = true := by simp
  have d9 : (r == 9) = false := by simp; omega
  have d10 : (r == 10) = false := by simp; omega
  have d12 : (r == 12) = false := by simp; omega
  have d13 : (r == 13) = true := by simp; omega
  have d32 : (r == 32) = false := by simp; omega
  have l57 : decide (r ≤ 57) = true := by simp; omega
  have l90 : decide (r ≤ 90) = true := by simp; omega
  have l122 : decide (r ≤ 122) = true := by simp; omega
  have l70 : decide (r ≤ 70) = true := by simp; omega
  go_enter Try.func6, Try.ntmps6
  go_wp2_with (go_at_call 10; refine (head1_any _).mono ?_; rintro e w1 ⟨rfl, hb1⟩)
  go_loop [7, 51] (fun v i => ∃ k : Nat, k ≤ 16 ∧ i = .int .i64 k ∧ v = .int .i64 (Kx.hx r k)) (fun _ i => 16 - (intOf i).toNat)
  case atStart => exact ⟨0, by omega, rfl, by rw [Kx.hx_zero]⟩
  case round =>
    obtain ⟨k, hk, rfl, rfl⟩ := hrel
    by_cases hlt : k < 16
    · have hck := cell16 w1 k hlt
      obtain ⟨x, hx⟩ : ∃ x, Kx.xs[k]?.getD 0 = x := ⟨_, rfl⟩
      have hxb := Kx.xs_bd k hlt
      rw [hx] at hck hxb
      have HX := Lib.hid hx
      clear hx
      cases q1 : (r == x) with
      | true =>
        go_wp2
        go_round
        case rel => exact ⟨k + 1, by omega, by go_num, by rw [Kx.hx_hit r k (Kx.hit1' r x k hlt HX.out q1)]⟩
        case measure => simp [intOf]; omega
      | false =>
        cases q2 : (r + 32 == x) with
        | true =>
          go_wp2
          go_round
          case rel => exact ⟨k + 1, by omega, by go_num, by rw [Kx.hx_miss r k (Kx.miss' r x k hlt HX.out q1 (.inr (by omega)))]⟩
          case measure => simp [intOf]; omega
        | false =>
          go_wp2
          go_round
          case rel => exact ⟨k + 1, by omega, by go_num, by rw [Kx.hx_miss r k (Kx.miss' r x k hlt HX.out q1 (.inl q2))]⟩
          case measure => simp [intOf]; omega
    · obtain rfl : k = 16 := by omega
      rw [Kx.hx_all]
      go_wp2_with (first | (go_at_call 18; refine (H1.out _).mono ?_; rintro e w' ⟨rfl, rfl⟩) | (go_at_call 19; refine (H2.out _).mono ?_; rintro e w' ⟨rfl, rfl⟩) | (go_at_call 20; refine (H3.out _).mono ?_; rintro e w' ⟨rfl, rfl⟩) | (go_at_call 21; refine (H4.out _).mono ?_; rintro e w' ⟨rfl, rfl⟩) | (go_at_call 22; refine (H5.out _).mono ?_; rintro e w' ⟨rfl, rfl⟩))
      go_ret
      exact ⟨rfl, hb1.alloc hb1.size _⟩

set_option maxRecDepth 100000 in
set_option maxHeartbeats 1000000 in
theorem kinds_6 (r : Int) (w : World) (ha : 14 ≤ r) (hb : r ≤ 31) :
    Calls Try.prog 6 #[.int .i32 r] w fun e w' => e = .returned (.bool true) ∧ Below w.heap.size w w' := by
  have hbl : Tx.blank r = false := by simp [Tx.blank]; omega
  have hlt : Tx.letter r = false := by simp [Tx.letter]; omega
  have hdg : Tx.digit r = false := by simp [Tx.digit]; omega
  have hsm : Tx.small r = r := by unfold Tx.small; split <;> omega
  have C1 := fun W => blank_any r W
  have C2 := fun W => letter_any r W (by omega) (by omega)
  have C3 := fun W => digit_any r W
  have C4 := fun W => hex_any r W (by omega) (by omega)
  have C5 := fun W => small_any r W (by omega) (by omega)
  rw [hbl] at C1
  rw [hlt] at C2
  rw [hdg] at C3
  rw [hsm] at C5
  have H1 := Lib.hid C1
  have H2 := Lib.hid C2
  have H3 := Lib.hid C3
  have H4 := Lib.hid C4
  have H5 := Lib.hid C5
  clear C1 C2 C3 C4 C5 hbl hlt hdg hsm
  have e1 : (Tx.hex r == Tx.hex r) = true := by simp
  have e2 : (r == r) = true := by simp
  have d9 : (r == 9) = false := by simp; omega
  have d10 : (r == 10) = false := by simp; omega
  have d12 : (r == 12) = false := by simp; omega
  have d13 : (r == 13) = false := by simp; omega
  have d32 : (r == 32) = false := by simp; omega
  have l57 : decide (r ≤ 57) = true := by simp; omega
  have l90 : decide (r ≤ 90) = true := by simp; omega
  have l122 : decide (r ≤ 122) = true := by simp; omega
  have l70 : decide (r ≤ 70) = true := by simp; omega
  go_enter Try.func6, Try.ntmps6
  go_wp2_with (go_at_call 10; refine (head1_any _).mono ?_; rintro e w1 ⟨rfl, hb1⟩)
  go_loop [7, 51] (fun v i => ∃ k : Nat, k ≤ 16 ∧ i = .int .i64 k ∧ v = .int .i64 (Kx.hx r k)) (fun _ i => 16 - (intOf i).toNat)
  case atStart => exact ⟨0, by omega, rfl, by rw [Kx.hx_zero]⟩
  case round =>
    obtain ⟨k, hk, rfl, rfl⟩ := hrel
    by_cases hlt : k < 16
    · have hck := cell16 w1 k hlt
      obtain ⟨x, hx⟩ : ∃ x, Kx.xs[k]?.getD 0 = x := ⟨_, rfl⟩
      have hxb := Kx.xs_bd k hlt
      rw [hx] at hck hxb
      have HX := Lib.hid hx
      clear hx
      cases q1 : (r == x) with
      | true =>
        go_wp2
        go_round
        case rel => exact ⟨k + 1, by omega, by go_num, by rw [Kx.hx_hit r k (Kx.hit1' r x k hlt HX.out q1)]⟩
        case measure => simp [intOf]; omega
      | false =>
        cases q2 : (r + 32 == x) with
        | true =>
          go_wp2
          go_round
          case rel => exact ⟨k + 1, by omega, by go_num, by rw [Kx.hx_miss r k (Kx.miss' r x k hlt HX.out q1 (.inr (by omega)))]⟩
          case measure => simp [intOf]; omega
        | false =>
          go_wp2
          go_round
          case rel => exact ⟨k + 1, by omega, by go_num, by rw [Kx.hx_miss r k (Kx.miss' r x k hlt HX.out q1 (.inl q2))]⟩
          case measure => simp [intOf]; omega
    · obtain rfl : k = 16 := by omega
      rw [Kx.hx_all]
      go_wp2_with (first | (go_at_call 18; refine (H1.out _).mono ?_; rintro e w' ⟨rfl, rfl⟩) | (go_at_call 19; refine (H2.out _).mono ?_; rintro e w' ⟨rfl, rfl⟩) | (go_at_call 20; refine (H3.out _).mono ?_; rintro e w' ⟨rfl, rfl⟩) | (go_at_call 21; refine (H4.out _).mono ?_; rintro e w' ⟨rfl, rfl⟩) | (go_at_call 22; refine (H5.out _).mono ?_; rintro e w' ⟨rfl, rfl⟩))
      go_ret
      exact ⟨rfl, hb1.alloc hb1.size _⟩

set_option maxRecDepth 100000 in
set_option maxHeartbeats 1000000 in
theorem kinds_7 (r : Int) (w : World) (ha : 32 ≤ r) (hb : r ≤ 32) :
    Calls Try.prog 6 #[.int .i32 r] w fun e w' => e = .returned (.bool true) ∧ Below w.heap.size w w' := by
  have hbl : Tx.blank r = true := by simp [Tx.blank]; omega
  have hlt : Tx.letter r = false := by simp [Tx.letter]; omega
  have hdg : Tx.digit r = false := by simp [Tx.digit]; omega
  have hsm : Tx.small r = r := by unfold Tx.small; split <;> omega
  have C1 := fun W => blank_any r W
  have C2 := fun W => letter_any r W (by omega) (by omega)
  have C3 := fun W => digit_any r W
  have C4 := fun W => hex_any r W (by omega) (by omega)
  have C5 := fun W => small_any r W (by omega) (by omega)
  rw [hbl] at C1
  rw [hlt] at C2
  rw [hdg] at C3
  rw [hsm] at C5
  have H1 := Lib.hid C1
  have H2 := Lib.hid C2
  have H3 := Lib.hid C3
  have H4 := Lib.hid C4
  have H5 := Lib.hid C5
  clear C1 C2 C3 C4 C5 hbl hlt hdg hsm
  have e1 : (Tx.hex r == Tx.hex r) = true := by simp
  have e2 : (r == r) = true := by simp
  have d9 : (r == 9) = false := by simp; omega
  have d10 : (r == 10) = false := by simp; omega
  have d12 : (r == 12) = false := by simp; omega
  have d13 : (r == 13) = false := by simp; omega
  have d32 : (r == 32) = true := by simp; omega
  have l57 : decide (r ≤ 57) = true := by simp; omega
  have l90 : decide (r ≤ 90) = true := by simp; omega
  have l122 : decide (r ≤ 122) = true := by simp; omega
  have l70 : decide (r ≤ 70) = true := by simp; omega
  go_enter Try.func6, Try.ntmps6
  go_wp2_with (go_at_call 10; refine (head1_any _).mono ?_; rintro e w1 ⟨rfl, hb1⟩)
  go_loop [7, 51] (fun v i => ∃ k : Nat, k ≤ 16 ∧ i = .int .i64 k ∧ v = .int .i64 (Kx.hx r k)) (fun _ i => 16 - (intOf i).toNat)
  case atStart => exact ⟨0, by omega, rfl, by rw [Kx.hx_zero]⟩
  case round =>
    obtain ⟨k, hk, rfl, rfl⟩ := hrel
    by_cases hlt : k < 16
    · have hck := cell16 w1 k hlt
      obtain ⟨x, hx⟩ : ∃ x, Kx.xs[k]?.getD 0 = x := ⟨_, rfl⟩
      have hxb := Kx.xs_bd k hlt
      rw [hx] at hck hxb
      have HX := Lib.hid hx
      clear hx
      cases q1 : (r == x) with
      | true =>
        go_wp2
        go_round
        case rel => exact ⟨k + 1, by omega, by go_num, by rw [Kx.hx_hit r k (Kx.hit1' r x k hlt HX.out q1)]⟩
        case measure => simp [intOf]; omega
      | false =>
        cases q2 : (r + 32 == x) with
        | true =>
          go_wp2
          go_round
          case rel => exact ⟨k + 1, by omega, by go_num, by rw [Kx.hx_miss r k (Kx.miss' r x k hlt HX.out q1 (.inr (by omega)))]⟩
          case measure => simp [intOf]; omega
        | false =>
          go_wp2
          go_round
          case rel => exact ⟨k + 1, by omega, by go_num, by rw [Kx.hx_miss r k (Kx.miss' r x k hlt HX.out q1 (.inl q2))]⟩
          case measure => simp [intOf]; omega
    · obtain rfl : k = 16 := by omega
      rw [Kx.hx_all]
      go_wp2_with (first | (go_at_call 18; refine (H1.out _).mono ?_; rintro e w' ⟨rfl, rfl⟩) | (go_at_call 19; refine (H2.out _).mono ?_; rintro e w' ⟨rfl, rfl⟩) | (go_at_call 20; refine (H3.out _).mono ?_; rintro e w' ⟨rfl, rfl⟩) | (go_at_call 21; refine (H4.out _).mono ?_; rintro e w' ⟨rfl, rfl⟩) | (go_at_call 22; refine (H5.out _).mono ?_; rintro e w' ⟨rfl, rfl⟩))
      go_ret
      exact ⟨rfl, hb1.alloc hb1.size _⟩

set_option maxRecDepth 100000 in
set_option maxHeartbeats 1000000 in
theorem kinds_8 (r : Int) (w : World) (ha : 33 ≤ r) (hb : r ≤ 47) :
    Calls Try.prog 6 #[.int .i32 r] w fun e w' => e = .returned (.bool true) ∧ Below w.heap.size w w' := by
  have hbl : Tx.blank r = false := by simp [Tx.blank]; omega
  have hlt : Tx.letter r = false := by simp [Tx.letter]; omega
  have hdg : Tx.digit r = false := by simp [Tx.digit]; omega
  have hsm : Tx.small r = r := by unfold Tx.small; split <;> omega
  have C1 := fun W => blank_any r W
  have C2 := fun W => letter_any r W (by omega) (by omega)
  have C3 := fun W => digit_any r W
  have C4 := fun W => hex_any r W (by omega) (by omega)
  have C5 := fun W => small_any r W (by omega) (by omega)
  rw [hbl] at C1
  rw [hlt] at C2
  rw [hdg] at C3
  rw [hsm] at C5
  have H1 := Lib.hid C1
  have H2 := Lib.hid C2
  have H3 := Lib.hid C3
  have H4 := Lib.hid C4
  have H5 := Lib.hid C5
  clear C1 C2 C3 C4 C5 hbl hlt hdg hsm
  have e1 : (Tx.hex r == Tx.hex r) = true := by simp
  have e2 : (r == r) = true := by simp
  have d9 : (r == 9) = false := by simp; omega
  have d10 : (r == 10) = false := by simp; omega
  have d12 : (r == 12) = false := by simp; omega
  have d13 : (r == 13) = false := by simp; omega
  have d32 : (r == 32) = false := by simp; omega
  have l57 : decide (r ≤ 57) = true := by simp; omega
  have l90 : decide (r ≤ 90) = true := by simp; omega
  have l122 : decide (r ≤ 122) = true := by simp; omega
  have l70 : decide (r ≤ 70) = true := by simp; omega
  go_enter Try.func6, Try.ntmps6
  go_wp2_with (go_at_call 10; refine (head1_any _).mono ?_; rintro e w1 ⟨rfl, hb1⟩)
  go_loop [7, 51] (fun v i => ∃ k : Nat, k ≤ 16 ∧ i = .int .i64 k ∧ v = .int .i64 (Kx.hx r k)) (fun _ i => 16 - (intOf i).toNat)
  case atStart => exact ⟨0, by omega, rfl, by rw [Kx.hx_zero]⟩
  case round =>
    obtain ⟨k, hk, rfl, rfl⟩ := hrel
    by_cases hlt : k < 16
    · have hck := cell16 w1 k hlt
      obtain ⟨x, hx⟩ : ∃ x, Kx.xs[k]?.getD 0 = x := ⟨_, rfl⟩
      have hxb := Kx.xs_bd k hlt
      rw [hx] at hck hxb
      have HX := Lib.hid hx
      clear hx
      cases q1 : (r == x) with
      | true =>
        go_wp2
        go_round
        case rel => exact ⟨k + 1, by omega, by go_num, by rw [Kx.hx_hit r k (Kx.hit1' r x k hlt HX.out q1)]⟩
        case measure => simp [intOf]; omega
      | false =>
        cases q2 : (r + 32 == x) with
        | true =>
          go_wp2
          go_round
          case rel => exact ⟨k + 1, by omega, by go_num, by rw [Kx.hx_miss r k (Kx.miss' r x k hlt HX.out q1 (.inr (by omega)))]⟩
          case measure => simp [intOf]; omega
        | false =>
          go_wp2
          go_round
          case rel => exact ⟨k + 1, by omega, by go_num, by rw [Kx.hx_miss r k (Kx.miss' r x k hlt HX.out q1 (.inl q2))]⟩
          case measure => simp [intOf]; omega
    · obtain rfl : k = 16 := by omega
      rw [Kx.hx_all]
      go_wp2_with (first | (go_at_call 18; refine (H1.out _).mono ?_; rintro e w' ⟨rfl, rfl⟩) | (go_at_call 19; refine (H2.out _).mono ?_; rintro e w' ⟨rfl, rfl⟩) | (go_at_call 20; refine (H3.out _).mono ?_; rintro e w' ⟨rfl, rfl⟩) | (go_at_call 21; refine (H4.out _).mono ?_; rintro e w' ⟨rfl, rfl⟩) | (go_at_call 22; refine (H5.out _).mono ?_; rintro e w' ⟨rfl, rfl⟩))
      go_ret
      exact ⟨rfl, hb1.alloc hb1.size _⟩

set_option maxRecDepth 100000 in
set_option maxHeartbeats 1000000 in
theorem kinds_9 (r : Int) (w : World) (ha : 48 ≤ r) (hb : r ≤ 57) :
    Calls Try.prog 6 #[.int .i32 r] w fun e w' => e = .returned (.bool true) ∧ Below w.heap.size w w' := by
  have hbl : Tx.blank r = false := by simp [Tx.blank]; omega
  have hlt : Tx.letter r = false := by simp [Tx.letter]; omega
  have hdg : Tx.digit r = true := by simp [Tx.digit]; omega
  have hsm : Tx.small r = r := by unfold Tx.small; split <;> omega
  have C1 := fun W => blank_any r W
  have C2 := fun W => letter_any r W (by omega) (by omega)
  have C3 := fun W => digit_any r W
  have C4 := fun W => hex_any r W (by omega) (by omega)
  have C5 := fun W => small_any r W (by omega) (by omega)
  rw [hbl] at C1
  rw [hlt] at C2
  rw [hdg] at C3
  rw [hsm] at C5
  have H1 := Lib.hid C1
  have H2 := Lib.hid C2
  have H3 := Lib.hid C3
  have H4 := Lib.hid C4
  have H5 := Lib.hid C5
  clear C1 C2 C3 C4 C5 hbl hlt hdg hsm
  have e1 : (Tx.hex r == Tx.hex r) = true := by simp
  have e2 : (r == r) = true := by simp
  have d9 : (r == 9) = false := by simp; omega
  have d10 : (r == 10) = false := by simp; omega
  have d12 : (r == 12) = false := by simp; omega
  have d13 : (r == 13) = false := by simp; omega
  have d32 : (r == 32) = false := by simp; omega
  have l57 : decide (r ≤ 57) = true := by simp; omega
  have l90 : decide (r ≤ 90) = true := by simp; omega
  have l122 : decide (r ≤ 122) = true := by simp; omega
  have l70 : decide (r ≤ 70) = true := by simp; omega
  go_enter Try.func6, Try.ntmps6
  go_wp2_with (go_at_call 10; refine (head1_any _).mono ?_; rintro e w1 ⟨rfl, hb1⟩)
  go_loop [7, 51] (fun v i => ∃ k : Nat, k ≤ 16 ∧ i = .int .i64 k ∧ v = .int .i64 (Kx.hx r k)) (fun _ i => 16 - (intOf i).toNat)
  case atStart => exact ⟨0, by omega, rfl, by rw [Kx.hx_zero]⟩
  case round =>
    obtain ⟨k, hk, rfl, rfl⟩ := hrel
    by_cases hlt : k < 16
    · have hck := cell16 w1 k hlt
      obtain ⟨x, hx⟩ : ∃ x, Kx.xs[k]?.getD 0 = x := ⟨_, rfl⟩
      have hxb := Kx.xs_bd k hlt
      rw [hx] at hck hxb
      have HX := Lib.hid hx
      clear hx
      cases q1 : (r == x) with
      | true =>
        go_wp2
        go_round
        case rel => exact ⟨k + 1, by omega, by go_num, by rw [Kx.hx_hit r k (Kx.hit1' r x k hlt HX.out q1)]⟩
        case measure => simp [intOf]; omega
      | false =>
        cases q2 : (r + 32 == x) with
        | true =>
          go_wp2
          go_round
          case rel => exact ⟨k + 1, by omega, by go_num, by rw [Kx.hx_miss r k (Kx.miss' r x k hlt HX.out q1 (.inr (by omega)))]⟩
          case measure => simp [intOf]; omega
        | false =>
          go_wp2
          go_round
          case rel => exact ⟨k + 1, by omega, by go_num, by rw [Kx.hx_miss r k (Kx.miss' r x k hlt HX.out q1 (.inl q2))]⟩
          case measure => simp [intOf]; omega
    · obtain rfl : k = 16 := by omega
      rw [Kx.hx_all]
      go_wp2_with (first | (go_at_call 18; refine (H1.out _).mono ?_; rintro e w' ⟨rfl, rfl⟩) | (go_at_call 19; refine (H2.out _).mono ?_; rintro e w' ⟨rfl, rfl⟩) | (go_at_call 20; refine (H3.out _).mono ?_; rintro e w' ⟨rfl, rfl⟩) | (go_at_call 21; refine (H4.out _).mono ?_; rintro e w' ⟨rfl, rfl⟩) | (go_at_call 22; refine (H5.out _).mono ?_; rintro e w' ⟨rfl, rfl⟩))
      go_ret
      exact ⟨rfl, hb1.alloc hb1.size _⟩

set_option maxRecDepth 100000 in
set_option maxHeartbeats 1000000 in
theorem kinds_10 (r : Int) (w : World) (ha : 58 ≤ r) (hb : r ≤ 64) :
    Calls Try.prog 6 #[.int .i32 r] w fun e w' => e = .returned (.bool true) ∧ Below w.heap.size w w' := by
  have hbl : Tx.blank r = false := by simp [Tx.blank]; omega
  have hlt : Tx.letter r = false := by simp [Tx.letter]; omega
  have hdg : Tx.digit r = false := by simp [Tx.digit]; omega
  have hsm : Tx.small r = r := by unfold Tx.small; split <;> omega
  have C1 := fun W => blank_any r W
  have C2 := fun W => letter_any r W (by omega) (by omega)
  have C3 := fun W => digit_any r W
  have C4 := fun W => hex_any r W (by omega) (by omega)
  have C5 := fun W => small_any r W (by omega) (by omega)
  rw [hbl] at C1
  rw [hlt] at C2
  rw [hdg] at C3
  rw [hsm] at C5
  have H1 := Lib.hid C1
  have H2 := Lib.hid C2
  have H3 := Lib.hid C3
  have H4 := Lib.hid C4
  have H5 := Lib.hid C5
  clear C1 C2 C3 C4 C5 hbl hlt hdg hsm
  have e1 : (Tx.hex r == Tx.hex r) = true := by simp
  have e2 : (r == r) = true := by simp
  have d9 : (r == 9) = false := by simp; omega
  have d10 : (r == 10) = false := by simp; omega
  have d12 : (r == 12) = false := by simp; omega
  have d13 : (r == 13) = false := by simp; omega
  have d32 : (r == 32) = false := by simp; omega
  have l57 : decide (r ≤ 57) = false := by simp; omega
  have l90 : decide (r ≤ 90) = true := by simp; omega
  have l122 : decide (r ≤ 122) = true := by simp; omega
  have l70 : decide (r ≤ 70) = true := by simp; omega
  go_enter Try.func6, Try.ntmps6
  go_wp2_with (go_at_call 10; refine (head1_any _).mono ?_; rintro e w1 ⟨rfl, hb1⟩)
  go_loop [7, 51] (fun v i => ∃ k : Nat, k ≤ 16 ∧ i = .int .i64 k ∧ v = .int .i64 (Kx.hx r k)) (fun _ i => 16 - (intOf i).toNat)
  case atStart => exact ⟨0, by omega, rfl, by rw [Kx.hx_zero]⟩
  case round =>
    obtain ⟨k, hk, rfl, rfl⟩ := hrel
    by_cases hlt : k < 16
    · have hck := cell16 w1 k hlt
      obtain ⟨x, hx⟩ : ∃ x, Kx.xs[k]?.getD 0 = x := ⟨_, rfl⟩
      have hxb := Kx.xs_bd k hlt
      rw [hx] at hck hxb
      have HX := Lib.hid hx
      clear hx
      cases q1 : (r == x) with
      | true =>
        go_wp2
        go_round
        case rel => exact ⟨k + 1, by omega, by go_num, by rw [Kx.hx_hit r k (Kx.hit1' r x k hlt HX.out q1)]⟩
        case measure => simp [intOf]; omega
      | false =>
        cases q2 : (r + 32 == x) with
        | true =>
          go_wp2
          go_round
          case rel => exact ⟨k + 1, by omega, by go_num, by rw [Kx.hx_miss r k (Kx.miss' r x k hlt HX.out q1 (.inr (by omega)))]⟩
          case measure => simp [intOf]; omega
        | false =>
          go_wp2
          go_round
          case rel => exact ⟨k + 1, by omega, by go_num, by rw [Kx.hx_miss r k (Kx.miss' r x k hlt HX.out q1 (.inl q2))]⟩
          case measure => simp [intOf]; omega
    · obtain rfl : k = 16 := by omega
      rw [Kx.hx_all]
      go_wp2_with (first | (go_at_call 18; refine (H1.out _).mono ?_; rintro e w' ⟨rfl, rfl⟩) | (go_at_call 19; refine (H2.out _).mono ?_; rintro e w' ⟨rfl, rfl⟩) | (go_at_call 20; refine (H3.out _).mono ?_; rintro e w' ⟨rfl, rfl⟩) | (go_at_call 21; refine (H4.out _).mono ?_; rintro e w' ⟨rfl, rfl⟩) | (go_at_call 22; refine (H5.out _).mono ?_; rintro e w' ⟨rfl, rfl⟩))
      go_ret
      exact ⟨rfl, hb1.alloc hb1.size _⟩

set_option maxRecDepth 100000 in
set_option maxHeartbeats 1000000 in
theorem kinds_11 (r : Int) (w : World) (ha : 65 ≤ r) (hb : r ≤ 70) :
    Calls Try.prog 6 #[.int .i32 r] w fun e w' => e = .returned (.bool true) ∧ Below w.heap.size w w' := by
  have hbl : Tx.blank r = false := by simp [Tx.blank]; omega
  have hlt : Tx.letter r = true := by simp [Tx.letter]; omega
  have hdg : Tx.digit r = false := by simp [Tx.digit]; omega
  have hsm : Tx.small r = r + 32 := by unfold Tx.small; split <;> omega
  have C1 := fun W => blank_any r W
  have C2 := fun W => letter_any r W (by omega) (by omega)
  have C3 := fun W => digit_any r W
  have C4 := fun W => hex_any r W (by omega) (by omega)
  have C5 := fun W => small_any r W (by omega) (by omega)
  rw [hbl] at C1
  rw [hlt] at C2
  rw [hdg] at C3
  rw [hsm] at C5
  have H1 := Lib.hid C1
  have H2 := Lib.hid C2
  have H3 := Lib.hid C3
  have H4 := Lib.hid C4
  have H5 := Lib.hid C5
  clear C1 C2 C3 C4 C5 hbl hlt hdg hsm
  have e1 : (Tx.hex r == Tx.hex r) = true := by simp
  have e2 : (r + 32 == r + 32) = true := by simp
  have d9 : (r == 9) = false := by simp; omega
  have d10 : (r == 10) = false := by simp; omega
  have d12 : (r == 12) = false := by simp; omega
  have d13 : (r == 13) = false := by simp; omega
  have d32 : (r == 32) = false := by simp; omega
  have l57 : decide (r ≤ 57) = false := by simp; omega
  have l90 : decide (r ≤ 90) = true := by simp; omega
  have l122 : decide (r ≤ 122) = true := by simp; omega
  have l70 : decide (r ≤ 70) = true := by simp; omega
  go_enter Try.func6, Try.ntmps6
  go_wp2_with (go_at_call 10; refine (head1_any _).mono ?_; rintro e w1 ⟨rfl, hb1⟩)
  go_loop [7, 51] (fun v i => ∃ k : Nat, k ≤ 16 ∧ i = .int .i64 k ∧ v = .int .i64 (Kx.hx r k)) (fun _ i => 16 - (intOf i).toNat)
  case atStart => exact ⟨0, by omega, rfl, by rw [Kx.hx_zero]⟩
  case round =>
    obtain ⟨k, hk, rfl, rfl⟩ := hrel
    by_cases hlt : k < 16
    · have hck := cell16 w1 k hlt
      obtain ⟨x, hx⟩ : ∃ x, Kx.xs[k]?.getD 0 = x := ⟨_, rfl⟩
      have hxb := Kx.xs_bd k hlt
      rw [hx] at hck hxb
      have HX := Lib.hid hx
      clear hx
      cases q1 : (r == x) with
      | true =>
        go_wp2
        go_round
        case rel => exact ⟨k + 1, by omega, by go_num, by rw [Kx.hx_hit r k (Kx.hit1' r x k hlt HX.out q1)]⟩
        case measure => simp [intOf]; omega
      | false =>
        cases q2 : (r + 32 == x) with
        | true =>
          go_wp2
          go_round
          case rel => exact ⟨k + 1, by omega, by go_num, by rw [Kx.hx_hit r k (Kx.hit2' r x k hlt HX.out (by omega) (by omega) q2)]⟩
          case measure => simp [intOf]; omega
        | false =>
          go_wp2
          go_round
          case rel => exact ⟨k + 1, by omega, by go_num, by rw [Kx.hx_miss r k (Kx.miss' r x k hlt HX.out q1 (.inl q2))]⟩
          case measure => simp [intOf]; omega
    · obtain rfl : k = 16 := by omega
      rw [Kx.hx_all]
      go_wp2_with (first | (go_at_call 18; refine (H1.out _).mono ?_; rintro e w' ⟨rfl, rfl⟩) | (go_at_call 19; refine (H2.out _).mono ?_; rintro e w' ⟨rfl, rfl⟩) | (go_at_call 20; refine (H3.out _).mono ?_; rintro e w' ⟨rfl, rfl⟩) | (go_at_call 21; refine (H4.out _).mono ?_; rintro e w' ⟨rfl, rfl⟩) | (go_at_call 22; refine (H5.out _).mono ?_; rintro e w' ⟨rfl, rfl⟩))
      go_ret
      exact ⟨rfl, hb1.alloc hb1.size _⟩

set_option maxRecDepth 100000 in
set_option maxHeartbeats 1000000 in
theorem kinds_12 (r : Int) (w : World) (ha : 71 ≤ r) (hb : r ≤ 90) :
    Calls Try.prog 6 #[.int .i32 r] w fun e w' => e = .returned (.bool true) ∧ Below w.heap.size w w' := by
  have hbl : Tx.blank r = false := by simp [Tx.blank]; omega
  have hlt : Tx.letter r = true := by simp [Tx.letter]; omega
  have hdg : Tx.digit r = false := by simp [Tx.digit]; omega
  have hsm : Tx.small r = r + 32 := by unfold Tx.small; split <;> omega
  have C1 := fun W => blank_any r W
  have C2 := fun W => letter_any r W (by omega) (by omega)
  have C3 := fun W => digit_any r W
  have C4 := fun W => hex_any r W (by omega) (by omega)
  have C5 := fun W => small_any r W (by omega) (by omega)
  rw [hbl] at C1
  rw [hlt] at C2
  rw [hdg] at C3
  rw [hsm] at C5
  have H1 := Lib.hid C1
  have H2 := Lib.hid C2
  have H3 := Lib.hid C3
  have H4 := Lib.hid C4
  have H5 := Lib.hid C5
  clear C1 C2 C3 C4 C5 hbl hlt hdg hsm
  have e1 : (Tx.hex r == Tx.hex r) = true := by simp
  have e2 : (r + 32 == r + 32) = true := by simp
  have d9 : (r == 9) = false := by simp; omega
  have d10 : (r == 10) = false := by simp; omega
  have d12 : (r == 12) = false := by simp; omega
  have d13 : (r == 13) = false := by simp; omega
  have d32 : (r == 32) = false := by simp; omega
  have l57 : decide (r ≤ 57) = false := by simp; omega
  have l90 : decide (r ≤ 90) = true := by simp; omega
  have l122 : decide (r ≤ 122) = true := by simp; omega
  have l70 : decide (r ≤ 70) = false := by simp; omega
  go_enter Try.func6, Try.ntmps6
  go_wp2_with (go_at_call 10; refine (head1_any _).mono ?_; rintro e w1 ⟨rfl, hb1⟩)
  go_loop [7, 51] (fun v i => ∃ k : Nat, k ≤ 16 ∧ i = .int .i64 k ∧ v = .int .i64 (Kx.hx r k)) (fun _ i => 16 - (intOf i).toNat)
  case atStart => exact ⟨0, by omega, rfl, by rw [Kx.hx_zero]⟩
  case round =>
    obtain ⟨k, hk, rfl, rfl⟩ := hrel
    by_cases hlt : k < 16
    · have hck := cell16 w1 k hlt
      obtain ⟨x, hx⟩ : ∃ x, Kx.xs[k]?.getD 0 = x := ⟨_, rfl⟩
      have hxb := Kx.xs_bd k hlt
      rw [hx] at hck hxb
      have HX := Lib.hid hx
      clear hx
      cases q1 : (r == x) with
      | true =>
        go_wp2
        go_round
        case rel => exact ⟨k + 1, by omega, by go_num, by rw [Kx.hx_hit r k (Kx.hit1' r x k hlt HX.out q1)]⟩
        case measure => simp [intOf]; omega
      | false =>
        cases q2 : (r + 32 == x) with
        | true =>
          go_wp2
          go_round
          case rel => exact ⟨k + 1, by omega, by go_num, by rw [Kx.hx_miss r k (Kx.miss' r x k hlt HX.out q1 (.inr (by omega)))]⟩
          case measure => simp [intOf]; omega
        | false =>
          go_wp2
          go_round
          case rel => exact ⟨k + 1, by omega, by go_num, by rw [Kx.hx_miss r k (Kx.miss' r x k hlt HX.out q1 (.inl q2))]⟩
          case measure => simp [intOf]; omega
    · obtain rfl : k = 16 := by omega
      rw [Kx.hx_all]
      go_wp2_with (first | (go_at_call 18; refine (H1.out _).mono ?_; rintro e w' ⟨rfl, rfl⟩) | (go_at_call 19; refine (H2.out _).mono ?_; rintro e w' ⟨rfl, rfl⟩) | (go_at_call 20; refine (H3.out _).mono ?_; rintro e w' ⟨rfl, rfl⟩) | (go_at_call 21; refine (H4.out _).mono ?_; rintro e w' ⟨rfl, rfl⟩) | (go_at_call 22; refine (H5.out _).mono ?_; rintro e w' ⟨rfl, rfl⟩))
      go_ret
      exact ⟨rfl, hb1.alloc hb1.size _⟩

set_option maxRecDepth 100000 in
set_option maxHeartbeats 1000000 in
theorem kinds_13 (r : Int) (w : World) (ha : 91 ≤ r) (hb : r ≤ 96) :
    Calls Try.prog 6 #[.int .i32 r] w fun e w' => e = .returned (.bool true) ∧ Below w.heap.size w w' := by
  have hbl : Tx.blank r = false := by simp [Tx.blank]; omega
  have hlt : Tx.letter r = false := by simp [Tx.letter]; omega
  have hdg : Tx.digit r = false := by simp [Tx.digit]; omega
  have hsm : Tx.small r = r := by unfold Tx.small; split <;> omega
  have C1 := fun W => blank_any r W
  have C2 := fun W => letter_any r W (by omega) (by omega)
  have C3 := fun W => digit_any r W
  have C4 := fun W => hex_any r W (by omega) (by omega)
  have C5 := fun W => small_any r W (by omega) (by omega)
  rw [hbl] at C1
  rw [hlt] at C2
  rw [hdg] at C3
  rw [hsm] at C5
  have H1 := Lib.hid C1
  have H2 := Lib.hid C2
  have H3 := Lib.hid C3
  have H4 := Lib.hid C4
  have H5 := Lib.hid C5
  clear C1 C2 C3 C4 C5 hbl hlt hdg hsm
  have e1 : (Tx.hex r == Tx.hex r) = true := by simp
  have e2 : (r == r) = true := by simp
  have d9 : (r == 9) = false := by simp; omega
  have d10 : (r == 10) = false := by simp; omega
  have d12 : (r == 12) = false := by simp; omega
  have d13 : (r == 13) = false := by simp; omega
  have d32 : (r == 32) = false := by simp; omega
  have l57 : decide (r ≤ 57) = false := by simp; omega
  have l90 : decide (r ≤ 90) = false := by simp; omega
  have l122 : decide (r ≤ 122) = true := by simp; omega
  have l70 : decide (r ≤ 70) = false := by simp; omega
  go_enter Try.func6, Try.ntmps6
  go_wp2_with (go_at_call 10; refine (head1_any _).mono ?_; rintro e w1 ⟨rfl, hb1⟩)
  go_loop [7, 51] (fun v i => ∃ k : Nat, k ≤ 16 ∧ i = .int .i64 k ∧ v = .int .i64 (Kx.hx r k)) (fun _ i => 16 - (intOf i).toNat)
  case atStart => exact ⟨0, by omega, rfl, by rw [Kx.hx_zero]⟩
  case round =>
    obtain ⟨k, hk, rfl, rfl⟩ := hrel
    by_cases hlt : k < 16
    · have hck := cell16 w1 k hlt
      obtain ⟨x, hx⟩ : ∃ x, Kx.xs[k]?.getD 0 = x := ⟨_, rfl⟩
      have hxb := Kx.xs_bd k hlt
      rw [hx] at hck hxb
      have HX := Lib.hid hx
      clear hx
      cases q1 : (r == x) with
      | true =>
        go_wp2
        go_round
        case rel => exact ⟨k + 1, by omega, by go_num, by rw [Kx.hx_hit r k (Kx.hit1' r x k hlt HX.out q1)]⟩
        case measure => simp [intOf]; omega
      | false =>
        cases q2 : (r + 32 == x) with
        | true =>
          go_wp2
          go_round
          case rel => exact ⟨k + 1, by omega, by go_num, by rw [Kx.hx_miss r k (Kx.miss' r x k hlt HX.out q1 (.inr (by omega)))]⟩
          case measure => simp [intOf]; omega
        | false =>
          go_wp2
          go_round
          case rel => exact ⟨k + 1, by omega, by go_num, by rw [Kx.hx_miss r k (Kx.miss' r x k hlt HX.out q1 (.inl q2))]⟩
          case measure => simp [intOf]; omega
    · obtain rfl : k = 16 := by omega
      rw [Kx.hx_all]
      go_wp2_with (first | (go_at_call 18; refine (H1.out _).mono ?_; rintro e w' ⟨rfl, rfl⟩) | (go_at_call 19; refine (H2.out _).mono ?_; rintro e w' ⟨rfl, rfl⟩) | (go_at_call 20; refine (H3.out _).mono ?_; rintro e w' ⟨rfl, rfl⟩) | (go_at_call 21; refine (H4.out _).mono ?_; rintro e w' ⟨rfl, rfl⟩) | (go_at_call 22; refine (H5.out _).mono ?_; rintro e w' ⟨rfl, rfl⟩))
      go_ret
      exact ⟨rfl, hb1.alloc hb1.size _⟩

set_option maxRecDepth 100000 in
set_option maxHeartbeats 1000000 in
theorem kinds_14 (r : Int) (w : World) (ha : 97 ≤ r) (hb : r ≤ 102) :
    Calls Try.prog 6 #[.int .i32 r] w fun e w' => e = .returned (.bool true) ∧ Below w.heap.size w w' := by
  have hbl : Tx.blank r = false := by simp [Tx.blank]; omega
  have hlt : Tx.letter r = true := by simp [Tx.letter]; omega
  have hdg : Tx.digit r = false := by simp [Tx.digit]; omega
  have hsm : Tx.small r = r := by unfold Tx.small; split <;> omega
  have C1 := fun W => blank_any r W
  have C2 := fun W => letter_any r W (by omega) (by omega)
  have C3 := fun W => digit_any r W
  have C4 := fun W => hex_any r W (by omega) (by omega)
  have C5 := fun W => small_any r W (by omega) (by omega)
  rw [hbl] at C1
  rw [hlt] at C2
  rw [hdg] at C3
  rw [hsm] at C5
  have H1 := Lib.hid C1
  have H2 := Lib.hid C2
  have H3 := Lib.hid C3
  have H4 := Lib.hid C4
  have H5 := Lib.hid C5
  clear C1 C2 C3 C4 C5 hbl hlt hdg hsm
  have e1 : (Tx.hex r == Tx.hex r) = true := by simp
  have e2 : (r == r) = true := by simp
  have d9 : (r == 9) = false := by simp; omega
  have d10 : (r == 10) = false := by simp; omega
  have d12 : (r == 12) = false := by simp; omega
  have d13 : (r == 13) = false := by simp; omega
  have d32 : (r == 32) = false := by simp; omega
  have l57 : decide (r ≤ 57) = false := by simp; omega
  have l90 : decide (r ≤ 90) = false := by simp; omega
  have l122 : decide (r ≤ 122) = true := by simp; omega
  have l70 : decide (r ≤ 70) = false := by simp; omega
  go_enter Try.func6, Try.ntmps6
  go_wp2_with (go_at_call 10; refine (head1_any _).mono ?_; rintro e w1 ⟨rfl, hb1⟩)
  go_loop [7, 51] (fun v i => ∃ k : Nat, k ≤ 16 ∧ i = .int .i64 k ∧ v = .int .i64 (Kx.hx r k)) (fun _ i => 16 - (intOf i).toNat)
  case atStart => exact ⟨0, by omega, rfl, by rw [Kx.hx_zero]⟩
  case round =>
    obtain ⟨k, hk, rfl, rfl⟩ := hrel
    by_cases hlt : k < 16
    · have hck := cell16 w1 k hlt
      obtain ⟨x, hx⟩ : ∃ x, Kx.xs[k]?.getD 0 = x := ⟨_, rfl⟩
      have hxb := Kx.xs_bd k hlt
      rw [hx] at hck hxb
      have HX := Lib.hid hx
      clear hx
      cases q1 : (r == x) with
      | true =>
        go_wp2
        go_round
        case rel => exact ⟨k + 1, by omega, by go_num, by rw [Kx.hx_hit r k (Kx.hit1' r x k hlt HX.out q1)]⟩
        case measure => simp [intOf]; omega
      | false =>
        cases q2 : (r + 32 == x) with
        | true =>
          go_wp2
          go_round
          case rel => exact ⟨k + 1, by omega, by go_num, by rw [Kx.hx_miss r k (Kx.miss' r x k hlt HX.out q1 (.inr (by omega)))]⟩
          case measure => simp [intOf]; omega
        | false =>
          go_wp2
          go_round
          case rel => exact ⟨k + 1, by omega, by go_num, by rw [Kx.hx_miss r k (Kx.miss' r x k hlt HX.out q1 (.inl q2))]⟩
          case measure => simp [intOf]; omega
    · obtain rfl : k = 16 := by omega
      rw [Kx.hx_all]
      go_wp2_with (first | (go_at_call 18; refine (H1.out _).mono ?_; rintro e w' ⟨rfl, rfl⟩) | (go_at_call 19; refine (H2.out _).mono ?_; rintro e w' ⟨rfl, rfl⟩) | (go_at_call 20; refine (H3.out _).mono ?_; rintro e w' ⟨rfl, rfl⟩) | (go_at_call 21; refine (H4.out _).mono ?_; rintro e w' ⟨rfl, rfl⟩) | (go_at_call 22; refine (H5.out _).mono ?_; rintro e w' ⟨rfl, rfl⟩))
      go_ret
      exact ⟨rfl, hb1.alloc hb1.size _⟩

set_option maxRecDepth 100000 in
set_option maxHeartbeats 1000000 in
theorem kinds_15 (r : Int) (w : World) (ha : 103 ≤ r) (hb : r ≤ 122) :
    Calls Try.prog 6 #[.int .i32 r] w fun e w' => e = .returned (.bool true) ∧ Below w.heap.size w w' := by
  have hbl : Tx.blank r = false := by simp [Tx.blank]; omega
  have hlt : Tx.letter r = true := by simp [Tx.letter]; omega
  have hdg : Tx.digit r = false := by simp [Tx.digit]; omega
  have hsm : Tx.small r = r := by unfold Tx.small; split <;> omega
  have C1 := fun W => blank_any r W
  have C2 := fun W => letter_any r W (by omega) (by omega)
  have C3 := fun W => digit_any r W
  have C4 := fun W => hex_any r W (by omega) (by omega)
  have C5 := fun W => small_any r W (by omega) (by omega)
  rw [hbl] at C1
  rw [hlt] at C2
  rw [hdg] at C3
  rw [hsm] at C5
  have H1 := Lib.hid C1
  have H2 := Lib.hid C2
  have H3 := Lib.hid C3
  have H4 := Lib.hid C4
  have H5 := Lib.hid C5
  clear C1 C2 C3 C4 C5 hbl hlt hdg hsm
  have e1 : (Tx.hex r == Tx.hex r) = true := by simp
  have e2 : (r == r) = true := by simp
  have d9 : (r == 9) = false := by simp; omega
  have d10 : (r == 10) = false := by simp; omega
  have d12 : (r == 12) = false := by simp; omega
  have d13 : (r == 13) = false := by simp; omega
  have d32 : (r == 32) = false := by simp; omega
  have l57 : decide (r ≤ 57) = false := by simp; omega
  have l90 : decide (r ≤ 90) = false := by simp; omega
  have l122 : decide (r ≤ 122) = true := by simp; omega
  have l70 : decide (r ≤ 70) = false := by simp; omega
  go_enter Try.func6, Try.ntmps6
  go_wp2_with (go_at_call 10; refine (head1_any _).mono ?_; rintro e w1 ⟨rfl, hb1⟩)
  go_loop [7, 51] (fun v i => ∃ k : Nat, k ≤ 16 ∧ i = .int .i64 k ∧ v = .int .i64 (Kx.hx r k)) (fun _ i => 16 - (intOf i).toNat)
  case atStart => exact ⟨0, by omega, rfl, by rw [Kx.hx_zero]⟩
  case round =>
    obtain ⟨k, hk, rfl, rfl⟩ := hrel
    by_cases hlt : k < 16
    · have hck := cell16 w1 k hlt
      obtain ⟨x, hx⟩ : ∃ x, Kx.xs[k]?.getD 0 = x := ⟨_, rfl⟩
      have hxb := Kx.xs_bd k hlt
      rw [hx] at hck hxb
      have HX := Lib.hid hx
      clear hx
      cases q1 : (r == x) with
      | true =>
        go_wp2
        go_round
        case rel => exact ⟨k + 1, by omega, by go_num, by rw [Kx.hx_hit r k (Kx.hit1' r x k hlt HX.out q1)]⟩
        case measure => simp [intOf]; omega
      | false =>
        cases q2 : (r + 32 == x) with
        | true =>
          go_wp2
          go_round
          case rel => exact ⟨k + 1, by omega, by go_num, by rw [Kx.hx_miss r k (Kx.miss' r x k hlt HX.out q1 (.inr (by omega)))]⟩
          case measure => simp [intOf]; omega
        | false =>
          go_wp2
          go_round
          case rel => exact ⟨k + 1, by omega, by go_num, by rw [Kx.hx_miss r k (Kx.miss' r x k hlt HX.out q1 (.inl q2))]⟩
          case measure => simp [intOf]; omega
    · obtain rfl : k = 16 := by omega
      rw [Kx.hx_all]
      go_wp2_with (first | (go_at_call 18; refine (H1.out _).mono ?_; rintro e w' ⟨rfl, rfl⟩) | (go_at_call 19; refine (H2.out _).mono ?_; rintro e w' ⟨rfl, rfl⟩) | (go_at_call 20; refine (H3.out _).mono ?_; rintro e w' ⟨rfl, rfl⟩) | (go_at_call 21; refine (H4.out _).mono ?_; rintro e w' ⟨rfl, rfl⟩) | (go_at_call 22; refine (H5.out _).mono ?_; rintro e w' ⟨rfl, rfl⟩))
      go_ret
      exact ⟨rfl, hb1.alloc hb1.size _⟩

set_option maxRecDepth 100000 in
set_option maxHeartbeats 1000000 in
theorem kinds_16 (r : Int) (w : World) (ha : 123 ≤ r) (hb : r ≤ 2147483647) :
    Calls Try.prog 6 #[.int .i32 r] w fun e w' => e = .returned (.bool true) ∧ Below w.heap.size w w' := by
  have hbl : Tx.blank r = false := by simp [Tx.blank]; omega
  have hlt : Tx.letter r = false := by simp [Tx.letter]; omega
  have hdg : Tx.digit r = false := by simp [Tx.digit]; omega
  have hsm : Tx.small r = r := by unfold Tx.small; split <;> omega
  have C1 := fun W => blank_any r W
  have C2 := fun W => letter_any r W (by omega) (by omega)
  have C3 := fun W => digit_any r W
  have C4 := fun W => hex_any r W (by omega) (by omega)
  have C5 := fun W => small_any r W (by omega) (by omega)
  rw [hbl] at C1
  rw [hlt] at C2
  rw [hdg] at C3
  rw [hsm] at C5
  have H1 := Lib.hid C1
  have H2 := Lib.hid C2
  have H3 := Lib.hid C3
  have H4 := Lib.hid C4
  have H5 := Lib.hid C5
  clear C1 C2 C3 C4 C5 hbl hlt hdg hsm
  have e1 : (Tx.hex r == Tx.hex r) = true := by simp
  have e2 : (r == r) = true := by simp
  have d9 : (r == 9) = false := by simp; omega
  have d10 : (r == 10) = false := by simp; omega
  have d12 : (r == 12) = false := by simp; omega
  have d13 : (r == 13) = false := by simp; omega
  have d32 : (r == 32) = false := by simp; omega
  have l57 : decide (r ≤ 57) = false := by simp; omega
  have l90 : decide (r ≤ 90) = false := by simp; omega
  have l122 : decide (r ≤ 122) = false := by simp; omega
  have l70 : decide (r ≤ 70) = false := by simp; omega
  go_enter Try.func6, Try.ntmps6
  go_wp2_with (go_at_call 10; refine (head1_any _).mono ?_; rintro e w1 ⟨rfl, hb1⟩)
  go_loop [7, 51] (fun v i => ∃ k : Nat, k ≤ 16 ∧ i = .int .i64 k ∧ v = .int .i64 (Kx.hx r k)) (fun _ i => 16 - (intOf i).toNat)
  case atStart => exact ⟨0, by omega, rfl, by rw [Kx.hx_zero]⟩
  case round =>
    obtain ⟨k, hk, rfl, rfl⟩ := hrel
    by_cases hlt : k < 16
    · have hck := cell16 w1 k hlt
      obtain ⟨x, hx⟩ : ∃ x, Kx.xs[k]?.getD 0 = x := ⟨_, rfl⟩
      have hxb := Kx.xs_bd k hlt
      rw [hx] at hck hxb
      have HX := Lib.hid hx
      clear hx
      cases q1 : (r == x) with
      | true =>
        go_wp2
        go_round
        case rel => exact ⟨k + 1, by omega, by go_num, by rw [Kx.hx_hit r k (Kx.hit1' r x k hlt HX.out q1)]⟩
        case measure => simp [intOf]; omega
      | false =>
        cases q2 : (r + 32 == x) with
        | true =>
          go_wp2
          go_round
          case rel => exact ⟨k + 1, by omega, by go_num, by rw [Kx.hx_miss r k (Kx.miss' r x k hlt HX.out q1 (.inr (by omega)))]⟩
          case measure => simp [intOf]; omega
        | false =>
          go_wp2
          go_round
          case rel => exact ⟨k + 1, by omega, by go_num, by rw [Kx.hx_miss r k (Kx.miss' r x k hlt HX.out q1 (.inl q2))]⟩
          case measure => simp [intOf]; omega
    · obtain rfl : k = 16 := by omega
      rw [Kx.hx_all]
      go_wp2_with (first | (go_at_call 18; refine (H1.out _).mono ?_; rintro e w' ⟨rfl, rfl⟩) | (go_at_call 19; refine (H2.out _).mono ?_; rintro e w' ⟨rfl, rfl⟩) | (go_at_call 20; refine (H3.out _).mono ?_; rintro e w' ⟨rfl, rfl⟩) | (go_at_call 21; refine (H4.out _).mono ?_; rintro e w' ⟨rfl, rfl⟩) | (go_at_call 22; refine (H5.out _).mono ?_; rintro e w' ⟨rfl, rfl⟩))
      go_ret
      exact ⟨rfl, hb1.alloc hb1.size _⟩

theorem kinds_any (r : Int) (w : World) (h0 : -2147483648 ≤ r) (h1 : r ≤ 2147483647) :
    Calls Try.prog 6 #[.int .i32 r] w fun e w' => e = .returned (.bool true) ∧ Below w.heap.size w w' := by
  by_cases c0 : r ≤ 8
  · exact kinds_0 r w (by omega) c0
  by_cases c1 : r ≤ 9
  · exact kinds_1 r w (by omega) c1
  by_cases c2 : r ≤ 10
  · exact kinds_2 r w (by omega) c2
  by_cases c3 : r ≤ 11
  · exact kinds_3 r w (by omega) c3
  by_cases c4 : r ≤ 12
  · exact kinds_4 r w (by omega) c4
  by_cases c5 : r ≤ 13
  · exact kinds_5 r w (by omega) c5
  by_cases c6 : r ≤ 31
  · exact kinds_6 r w (by omega) c6
  by_cases c7 : r ≤ 32
  · exact kinds_7 r w (by omega) c7
  by_cases c8 : r ≤ 47
  · exact kinds_8 r w (by omega) c8
  by_cases c9 : r ≤ 57
  · exact kinds_9 r w (by omega) c9
  by_cases c10 : r ≤ 64
  · exact kinds_10 r w (by omega) c10
  by_cases c11 : r ≤ 70
  · exact kinds_11 r w (by omega) c11
  by_cases c12 : r ≤ 90
  · exact kinds_12 r w (by omega) c12
  by_cases c13 : r ≤ 96
  · exact kinds_13 r w (by omega) c13
  by_cases c14 : r ≤ 102
  · exact kinds_14 r w (by omega) c14
  by_cases c15 : r ≤ 122
  · exact kinds_15 r w (by omega) c15
  exact kinds_16 r w (by omega) h1

end Go.Proofs.Ytdoglpaggmdnpaa
