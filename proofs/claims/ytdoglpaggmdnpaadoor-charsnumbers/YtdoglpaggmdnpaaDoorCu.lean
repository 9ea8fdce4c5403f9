/- The contract of chars.Number; the law CharsNumbers, walked. -/
import Derived.Test.YtdoglpaggmdnpaaDoorCn
import Derived.Test.YtdoglpaggmdnpaaDoorTk
namespace Go.Proofs.YtdoglpaggmdnpaaDoor
open Go.RowKit
namespace Nu

/-- is a sign a digit to the base? -/
def dig (base r : Int) : Bool := decide (0 ≤ Tx.hex r ∧ Tx.hex r < base)
/-- the number of the first k digits, held down -/
def val (base : Int) (rs : List Int) : Nat → Int
  | 0 => 0
  | k + 1 => min (val base rs k * base + Tx.hex (rs[k]?.getD 0)) 1114112
/-- the first k are digits, and no more -/
def Stop (base : Int) (rs : List Int) (k : Nat) : Prop :=
  k ≤ rs.length ∧ (∀ j, j < k → dig base (rs[j]?.getD 0) = true) ∧ (k < rs.length → dig base (rs[k]?.getD 0) = false)
theorem Stop.uniq {base : Int} {rs : List Int} {k k' : Nat} (h : Stop base rs k) (h' : Stop base rs k') : k = k' := by
  rcases Nat.lt_trichotomy k k' with hl | hl | hl
  · have h1 := h'.2.1 k hl
    have h2 := h.2.2 (by have := h'.1; omega)
    rw [h1] at h2; cases h2
  · exact hl
  · have h1 := h.2.1 k' hl
    have h2 := h'.2.2 (by have := h.1; omega)
    rw [h1] at h2; cases h2
theorem hex_bd (r : Int) : -1 ≤ Tx.hex r ∧ Tx.hex r ≤ 15 := by
  unfold Tx.hex
  (repeat' split) <;> omega
theorem val_bd (base : Int) (hb : base = 10 ∨ base = 16) (rs : List Int) : ∀ k, (∀ j, j < k → dig base (rs[j]?.getD 0) = true) → 0 ≤ val base rs k ∧ val base rs k ≤ 1114112
  | 0, _ => by simp [val]
  | k + 1, h => by
    have ih := val_bd base hb rs k (fun j hj => h j (by omega))
    have h1 : 0 ≤ Tx.hex (rs[k]?.getD 0) ∧ Tx.hex (rs[k]?.getD 0) < base := by simpa [dig] using h k (by omega)
    simp only [val]
    rcases hb with rfl | rfl <;> omega

end Nu

def NumberPost (base : Int) (rs : List Int) (w : World) (e : Ending) (w' : World) : Prop :=
  ∃ k : Nat, Nu.Stop base rs k ∧ e = .returned (.tuple #[.int .i64 (Nu.val base rs k), .int .i64 k]) ∧ w = w'

set_option maxRecDepth 100000 in
set_option maxHeartbeats 400000 in
theorem number_any (base : Int) (hb : base = 10 ∨ base = 16) (rs : List Int) (A : Option Addr) (cap : Nat) (w : World) (hr : Rd w .i32 A rs) (hl : rs.length ≤ 1000000) (hbd : ∀ i : Nat, -2147483648 ≤ rs[i]?.getD 0 ∧ rs[i]?.getD 0 ≤ 2147483647) :
    Calls Tryd.prog 13 #[.slice A rs.length cap, .int .i64 base] w (NumberPost base rs w) := by
  rcases hb with rfl | rfl
  · go_enter Tryd.func13, Tryd.ntmps13
    go_wp2
    go_loop [6, 18] (fun v i => ∃ k : Nat, k ≤ rs.length ∧ i = .int .i64 k ∧ v = .int .i64 (Nu.val 10 rs k) ∧ ∀ j, j < k → Nu.dig 10 (rs[j]?.getD 0) = true) (fun _ i => rs.length - (intOf i).toNat)
    case atStart => exact ⟨0, by omega, rfl, rfl, fun j hj => absurd hj (by omega)⟩
    case round =>
      obtain ⟨k, hk, rfl, rfl, hd⟩ := hrel
      have hv := Nu.val_bd 10 (.inl rfl) rs k hd
      have HD := Lib.hid hd
      clear hd
      by_cases hlt : k < rs.length
      · obtain ⟨b, off, rfl, hblk, hc⟩ := hr.pos (by omega)
        have hck := hc k hlt
        have hx := Nu.hex_bd (rs[k]?.getD 0)
        obtain ⟨x, hxx⟩ : ∃ x, rs[k]?.getD 0 = x := ⟨_, rfl⟩
        rw [hxx] at hck hx
        have hbk := hbd k
        rw [hxx] at hbk
        have HX := Lib.hid hxx
        clear hc hr hbd hxx
        go_wp2_with (go_at_call 12; refine (hex_any _ _ hbk.1 hbk.2).mono ?_; rintro e w' ⟨rfl, rfl⟩)
        · have ht : Tx.hex x < 0 ∨ 10 ≤ Tx.hex x := by assumption
          go_ret2
          exact ⟨k, ⟨hk, HD.out, fun _ => by rw [HX.out]; simp [Nu.dig]; omega⟩, rfl, rfl⟩
        · have ht : 0 ≤ Tx.hex x ∧ Tx.hex x < 10 := by assumption
          go_round
          case rel =>
            refine ⟨k + 1, by omega, by go_num, ?_, fun j hj => ?_⟩
            · simp only [Nu.val, HX.out]
              congr 1
              split <;> omega
            · by_cases hjk : j < k
              · exact HD.out j hjk
              · have : j = k := by omega
                subst this
                rw [HX.out]; simp [Nu.dig, ht]
          case measure => simp [intOf]; omega
        · have ht : Tx.hex x < 0 := by assumption
          go_ret2
          exact ⟨k, ⟨hk, HD.out, fun _ => by rw [HX.out]; simp [Nu.dig]; omega⟩, rfl, rfl⟩
      · have hkl : k = rs.length := by omega
        have HK := Lib.hid hkl
        clear hkl
        go_wp2
        go_ret2
        exact ⟨k, ⟨hk, HD.out, fun h => absurd h hlt⟩, by rw [HK.out]; rfl, rfl⟩
  · go_enter Tryd.func13, Tryd.ntmps13
    go_wp2
    go_loop [6, 18] (fun v i => ∃ k : Nat, k ≤ rs.length ∧ i = .int .i64 k ∧ v = .int .i64 (Nu.val 16 rs k) ∧ ∀ j, j < k → Nu.dig 16 (rs[j]?.getD 0) = true) (fun _ i => rs.length - (intOf i).toNat)
    case atStart => exact ⟨0, by omega, rfl, rfl, fun j hj => absurd hj (by omega)⟩
    case round =>
      obtain ⟨k, hk, rfl, rfl, hd⟩ := hrel
      have hv := Nu.val_bd 16 (.inr rfl) rs k hd
      have HD := Lib.hid hd
      clear hd
      by_cases hlt : k < rs.length
      · obtain ⟨b, off, rfl, hblk, hc⟩ := hr.pos (by omega)
        have hck := hc k hlt
        have hx := Nu.hex_bd (rs[k]?.getD 0)
        obtain ⟨x, hxx⟩ : ∃ x, rs[k]?.getD 0 = x := ⟨_, rfl⟩
        rw [hxx] at hck hx
        have hbk := hbd k
        rw [hxx] at hbk
        have HX := Lib.hid hxx
        clear hc hr hbd hxx
        go_wp2_with (go_at_call 12; refine (hex_any _ _ hbk.1 hbk.2).mono ?_; rintro e w' ⟨rfl, rfl⟩)
        · have ht : 0 ≤ Tx.hex x ∧ Tx.hex x < 16 := by assumption
          go_round
          case rel =>
            refine ⟨k + 1, by omega, by go_num, ?_, fun j hj => ?_⟩
            · simp only [Nu.val, HX.out]
              congr 1
              split <;> omega
            · by_cases hjk : j < k
              · exact HD.out j hjk
              · have : j = k := by omega
                subst this
                rw [HX.out]; simp [Nu.dig, ht]
          case measure => simp [intOf]; omega
        · have ht : Tx.hex x < 0 := by assumption
          go_ret2
          exact ⟨k, ⟨hk, HD.out, fun _ => by rw [HX.out]; simp [Nu.dig]; omega⟩, rfl, rfl⟩
      · have hkl : k = rs.length := by omega
        have HK := Lib.hid hkl
        clear hkl
        go_wp2
        go_ret2
        exact ⟨k, ⟨hk, HD.out, fun h => absurd h hlt⟩, by rw [HK.out]; rfl, rfl⟩


set_option maxRecDepth 100000 in
set_option maxHeartbeats 1000000 in
theorem numbers_10 (rs : List Int) (A : Option Addr) (cap : Nat) (w : World) (hw : WinAt w) (hr : Rd w .i32 A rs) (hl : rs.length ≤ 60) (hbd : ∀ i : Nat, -2147483648 ≤ rs[i]?.getD 0 ∧ rs[i]?.getD 0 ≤ 2147483647) :
    Calls Tryd.prog 4 #[.slice A rs.length cap, .bool false] w fun e w' => e = .returned (.bool true) ∧ Below w.heap.size w w' := by
  go_enter Tryd.func4, Tryd.ntmps4
  go_wp2_with (go_at_call 11; refine (head2_any _).mono ?_; rintro e w1 ⟨rfl, hb1⟩)
  have hr1 := hr.below hb1
  have hw1 := hw.below hb1
  go_loop [6, 7] (fun v i => ∃ k : Nat, k ≤ rs.length ∧ i = .int .i64 k ∧ v = .int .i64 (Nu.val 10 rs k) ∧ ∀ j, j < k → Nu.dig 10 (rs[j]?.getD 0) = true) (fun _ i => rs.length - (intOf i).toNat)
  case atStart => exact ⟨0, by omega, rfl, rfl, fun j hj => absurd hj (by omega)⟩
  case round =>
    obtain ⟨k, hk, rfl, rfl, hd⟩ := hrel
    have hv := Nu.val_bd 10 (.inl rfl) rs k hd
    have HD := Lib.hid hd
    clear hd hr hw
    by_cases hlt : k < rs.length ∧ Nu.dig 10 (rs[k]?.getD 0) = true
    · obtain ⟨hlt, hdk⟩ := hlt
      obtain ⟨b, off, rfl, hblk, hc⟩ := hr1.pos (by omega)
      have hck := hc k hlt
      obtain ⟨x, hxx⟩ : ∃ x, rs[k]?.getD 0 = x := ⟨_, rfl⟩
      have hbk := hbd k
      rw [hxx] at hck hbk hdk
      have hx : 0 ≤ Tx.hex x ∧ Tx.hex x < 10 := by simpa [Nu.dig] using hdk
      obtain ⟨hx0, hx1⟩ := hx
      have HX := Lib.hid hxx
      have HDK := Lib.hid hdk
      clear hc hr1 hbd hxx hdk hw1
      go_wp2_with (go_at_call 12; refine (hex_any _ _ hbk.1 hbk.2).mono ?_; rintro e w' ⟨rfl, rfl⟩)
      all_goals
        go_round
        case rel =>
          refine ⟨k + 1, by omega, by go_num, ?_, fun j hj => ?_⟩
          · simp only [Nu.val, HX.out]
            congr 1
            omega
          · by_cases hjk : j < k
            · exact HD.out j hjk
            · have : j = k := by omega
              subst this
              rw [HX.out]; exact HDK.out
        case measure => simp [intOf]; omega
    · have hst : Nu.Stop 10 rs k := ⟨hk, HD.out, fun h => by simpa [h] using hlt⟩
      have HS := Lib.hid hst
      have hnm := Cx.numeric_ok (Nu.val 10 rs k)
      obtain ⟨r, hrr⟩ : ∃ r, Cx.numeric (Nu.val 10 rs k) = r := ⟨_, rfl⟩
      rw [hrr] at hnm
      obtain ⟨hn1, hn2, hn3⟩ := hnm
      have C := fun W (h : WinAt W) => numeric_is (Nu.val 10 rs k) r W h (by omega) (by omega) hrr
      have D := fun (W : World) (h : Rd W .i32 A rs) => number_any 10 (.inl rfl) rs A cap W h (by omega) hbd
      have HC := Lib.hid C
      have HDD := Lib.hid D
      have hex1 : (Nu.val 10 rs k == Nu.val 10 rs k) = true := by simp
      have hex2 : ((k : Int) == (k : Int)) = true := by simp
      clear C D hrr hst
      by_cases hlk : k < rs.length
      · obtain ⟨b, off, rfl, hblk, hc⟩ := hr1.pos (by omega)
        have hck := hc k hlk
        have hdk : Nu.dig 10 (rs[k]?.getD 0) = false := by simpa [hlk] using hlt
        obtain ⟨x, hxx⟩ : ∃ x, rs[k]?.getD 0 = x := ⟨_, rfl⟩
        have hbk := hbd k
        have hxb := Nu.hex_bd (rs[k]?.getD 0)
        rw [hxx] at hck hbk hdk hxb
        have hx : Tx.hex x < 0 ∨ 10 ≤ Tx.hex x := by
          have : ¬ (0 ≤ Tx.hex x ∧ Tx.hex x < 10) := by simpa [Nu.dig] using hdk
          omega
        clear hc hbd hxx hdk hlt
        rcases hn3 with hn3 | hn3 <;> rcases hx with hx | hx
        all_goals
          try (exfalso; omega)
        all_goals
          go_wp2_with (first | (go_at_call 12; refine (hex_any _ _ hbk.1 hbk.2).mono ?_; rintro e w' ⟨rfl, rfl⟩) | (go_at_call 13; refine (HDD.out _ hr1).mono ?_; rintro e w' ⟨k', hs', rfl, rfl⟩; obtain rfl := hs'.uniq HS.out) | (go_at_call 14; refine (HC.out _ hw1).mono ?_; rintro e w' ⟨rfl, rfl⟩))
          all_goals
            go_ret
            exact ⟨ret_bool (by first | rfl | (simp; omega)), hb1⟩
      · clear hlt
        rcases hn3 with hn3 | hn3
        all_goals
          go_wp2_with (first | (go_at_call 13; refine (HDD.out _ hr1).mono ?_; rintro e w' ⟨k', hs', rfl, rfl⟩; obtain rfl := hs'.uniq HS.out) | (go_at_call 14; refine (HC.out _ hw1).mono ?_; rintro e w' ⟨rfl, rfl⟩))
          all_goals
            go_ret
            exact ⟨ret_bool (by first | rfl | (simp; omega)), hb1⟩

set_option maxRecDepth 100000 in
set_option maxHeartbeats 1000000 in
theorem numbers_16 (rs : List Int) (A : Option Addr) (cap : Nat) (w : World) (hw : WinAt w) (hr : Rd w .i32 A rs) (hl : rs.length ≤ 60) (hbd : ∀ i : Nat, -2147483648 ≤ rs[i]?.getD 0 ∧ rs[i]?.getD 0 ≤ 2147483647) :
    Calls Tryd.prog 4 #[.slice A rs.length cap, .bool true] w fun e w' => e = .returned (.bool true) ∧ Below w.heap.size w w' := by
  go_enter Tryd.func4, Tryd.ntmps4
  go_wp2_with (go_at_call 11; refine (head2_any _).mono ?_; rintro e w1 ⟨rfl, hb1⟩)
  have hr1 := hr.below hb1
  have hw1 := hw.below hb1
  go_loop [6, 7] (fun v i => ∃ k : Nat, k ≤ rs.length ∧ i = .int .i64 k ∧ v = .int .i64 (Nu.val 16 rs k) ∧ ∀ j, j < k → Nu.dig 16 (rs[j]?.getD 0) = true) (fun _ i => rs.length - (intOf i).toNat)
  case atStart => exact ⟨0, by omega, rfl, rfl, fun j hj => absurd hj (by omega)⟩
  case round =>
    obtain ⟨k, hk, rfl, rfl, hd⟩ := hrel
    have hv := Nu.val_bd 16 (.inr rfl) rs k hd
    have HD := Lib.hid hd
    clear hd hr hw
    by_cases hlt : k < rs.length ∧ Nu.dig 16 (rs[k]?.getD 0) = true
    · obtain ⟨hlt, hdk⟩ := hlt
      obtain ⟨b, off, rfl, hblk, hc⟩ := hr1.pos (by omega)
      have hck := hc k hlt
      obtain ⟨x, hxx⟩ : ∃ x, rs[k]?.getD 0 = x := ⟨_, rfl⟩
      have hbk := hbd k
      rw [hxx] at hck hbk hdk
      have hx : 0 ≤ Tx.hex x ∧ Tx.hex x < 16 := by simpa [Nu.dig] using hdk
      obtain ⟨hx0, hx1⟩ := hx
      have HX := Lib.hid hxx
      have HDK := Lib.hid hdk
      clear hc hr1 hbd hxx hdk hw1
      go_wp2_with (go_at_call 12; refine (hex_any _ _ hbk.1 hbk.2).mono ?_; rintro e w' ⟨rfl, rfl⟩)
      all_goals
        go_round
        case rel =>
          refine ⟨k + 1, by omega, by go_num, ?_, fun j hj => ?_⟩
          · simp only [Nu.val, HX.out]
            congr 1
            omega
          · by_cases hjk : j < k
            · exact HD.out j hjk
            · have : j = k := by omega
              subst this
              rw [HX.out]; exact HDK.out
        case measure => simp [intOf]; omega
    · have hst : Nu.Stop 16 rs k := ⟨hk, HD.out, fun h => by simpa [h] using hlt⟩
      have HS := Lib.hid hst
      have hnm := Cx.numeric_ok (Nu.val 16 rs k)
      obtain ⟨r, hrr⟩ : ∃ r, Cx.numeric (Nu.val 16 rs k) = r := ⟨_, rfl⟩
      rw [hrr] at hnm
      obtain ⟨hn1, hn2, hn3⟩ := hnm
      have C := fun W (h : WinAt W) => numeric_is (Nu.val 16 rs k) r W h (by omega) (by omega) hrr
      have D := fun (W : World) (h : Rd W .i32 A rs) => number_any 16 (.inr rfl) rs A cap W h (by omega) hbd
      have HC := Lib.hid C
      have HDD := Lib.hid D
      have hex1 : (Nu.val 16 rs k == Nu.val 16 rs k) = true := by simp
      have hex2 : ((k : Int) == (k : Int)) = true := by simp
      clear C D hrr hst
      by_cases hlk : k < rs.length
      · obtain ⟨b, off, rfl, hblk, hc⟩ := hr1.pos (by omega)
        have hck := hc k hlk
        have hdk : Nu.dig 16 (rs[k]?.getD 0) = false := by simpa [hlk] using hlt
        obtain ⟨x, hxx⟩ : ∃ x, rs[k]?.getD 0 = x := ⟨_, rfl⟩
        have hbk := hbd k
        have hxb := Nu.hex_bd (rs[k]?.getD 0)
        rw [hxx] at hck hbk hdk hxb
        have hx : Tx.hex x < 0 ∨ 16 ≤ Tx.hex x := by
          have : ¬ (0 ≤ Tx.hex x ∧ Tx.hex x < 16) := by simpa [Nu.dig] using hdk
          omega
        clear hc hbd hxx hdk hlt
        rcases hn3 with hn3 | hn3 <;> rcases hx with hx | hx
        all_goals
          try (exfalso; omega)
        all_goals
          go_wp2_with (first | (go_at_call 12; refine (hex_any _ _ hbk.1 hbk.2).mono ?_; rintro e w' ⟨rfl, rfl⟩) | (go_at_call 13; refine (HDD.out _ hr1).mono ?_; rintro e w' ⟨k', hs', rfl, rfl⟩; obtain rfl := hs'.uniq HS.out) | (go_at_call 14; refine (HC.out _ hw1).mono ?_; rintro e w' ⟨rfl, rfl⟩))
          all_goals
            go_ret
            exact ⟨ret_bool (by first | rfl | (simp; omega)), hb1⟩
      · clear hlt
        rcases hn3 with hn3 | hn3
        all_goals
          go_wp2_with (first | (go_at_call 13; refine (HDD.out _ hr1).mono ?_; rintro e w' ⟨k', hs', rfl, rfl⟩; obtain rfl := hs'.uniq HS.out) | (go_at_call 14; refine (HC.out _ hw1).mono ?_; rintro e w' ⟨rfl, rfl⟩))
          all_goals
            go_ret
            exact ⟨ret_bool (by first | rfl | (simp; omega)), hb1⟩

set_option maxHeartbeats 400000 in
theorem numbers_long (rs : List Int) (A : Option Addr) (cap : Nat) (hx : Bool) (w : World) (hl : 60 < rs.length) :
    Calls Tryd.prog 4 #[.slice A rs.length cap, .bool hx] w fun e w' => e = .returned (.bool true) ∧ Below w.heap.size w w' := by
  go_enter Tryd.func4, Tryd.ntmps4
  go_wp2_with (go_at_call 11; refine (head2_any _).mono ?_; rintro e w1 ⟨rfl, hb1⟩)
  go_ret
  exact ⟨rfl, hb1⟩

end Go.Proofs.YtdoglpaggmdnpaaDoor
