/- Contracts of frame.Sum, sumPlaced, and of the law's own sum. -/
import Derived.Test.YtanbbomdidefjaaFx
import Derived.Test.YtanbbomdidefjaaGm
import Derived.Handy
namespace Go.Proofs.Ytanbbomdidefjaa
open Go.RowKit

/-- bytes -/
def Byte8 (l : List Int) : Prop := ∀ c ∈ l, 0 ≤ c ∧ c ≤ 255
theorem Byte8.take {l : List Int} (h : Byte8 l) (n : Nat) : Byte8 (l.take n) := fun c hc => h c (List.mem_of_mem_take hc)
theorem Byte8.drop {l : List Int} (h : Byte8 l) (n : Nat) : Byte8 (l.drop n) := fun c hc => h c (List.mem_of_mem_drop hc)
theorem xor32 (s : Nat) (c : Int) (hs : s < 4294967296) (h0 : 0 ≤ c) (h1 : c ≤ 255) : bits .xor .u32 (s : Int) c = ((s ^^^ c.toNat : Nat) : Int) := by
  have := u32_xor_nat s c.toNat hs (by omega)
  rwa [Int.toNat_of_nonneg h0] at this
theorem xor64 (s : Nat) (c : Int) (hs : s < 4294967296) (h0 : 0 ≤ c) (h1 : c ≤ 255) : bits .xor .u64 (s : Int) c = ((s ^^^ c.toNat : Nat) : Int) := by
  have := u64_xor_nat s c.toNat (by omega) (by omega)
  rwa [Int.toNat_of_nonneg h0] at this
theorem takeS {α : Type} {l : List α} {i : Nat} {c : α} (h : l[i]? = some c) : l.take (i + 1) = l.take i ++ [c] := by
  rw [List.take_add_one, h]
  rfl
theorem sum_take {l : List Int} {i : Nat} {c : Int} (h : l[i]? = some c) : Fx.sum (l.take (i + 1)) = Fx.stp (Fx.sum (l.take i)) c := by
  rw [takeS h, Fx.sum_snoc]

set_option maxRecDepth 100000 in
set_option maxHeartbeats 400000 in
theorem Sum_any (b : List Int) (A : Option Addr) (cap : Nat) (w : World) (hr : Rd w .u8 A b) (h8 : Byte8 b) (hl : b.length ≤ 100000000) :
    Calls Try.prog 20 #[.slice A b.length cap] w fun e w' => e = .returned (.int .u32 (Fx.sum b)) ∧ w' = w := by
  go_enter Try.func20, Try.ntmps20
  go_wp2
  go_loopw [3, 8] (fun sv iv wr => ∃ i : Nat, i ≤ b.length ∧ iv = .int .i64 i ∧ sv = .int .u32 (Fx.sum (b.take i)) ∧ wr = w) (fun _ iv _ => b.length - (intOf iv).toNat)
  case atStart => exact ⟨0, by omega, rfl, rfl, rfl⟩
  case round =>
    obtain ⟨i, hi, rfl, rfl, rfl⟩ := hrel
    by_cases hil : i < b.length
    · obtain ⟨c, hc⟩ : ∃ c, b[i]? = some c := ⟨_, List.getElem?_eq_getElem hil⟩
      have hl1 : decide ((i : Int) < (b.length : Int)) = true := by simp; omega
      have hst := Lib.hid (sum_take hc)
      have hlt := Fx.sum_lt (b.take i)
      obtain ⟨h0, h1⟩ := h8 c (List.mem_of_getElem? hc)
      rcases hr with rfl | ⟨bb, off, rfl, hbb, hcell⟩
      · simp at hc
      have hx := hcell i hil
      rw [hc] at hx
      simp only [Option.getD_some] at hx
      obtain ⟨S, hS⟩ : ∃ S, Fx.sum (b.take i) = S := ⟨_, rfl⟩
      rw [hS] at hst hlt
      rw [hS]
      have hxor := xor32 S c hlt h0 h1
      clear hS hcell hc
      go_wp2
      go_roundw
      case rel => exact ⟨i + 1, by omega, by go_num, congrArg (Value.int .u32) (by rw [hst.out]; unfold Fx.stp; omega), trivial⟩
      case measure => simp [intOf]; omega
    · have hl1 : decide ((i : Int) < (b.length : Int)) = false := by simp; omega
      obtain rfl : i = b.length := by omega
      rw [List.take_length]
      go_wp2
      go_ret
      exact ⟨rfl, rfl⟩

set_option maxRecDepth 100000 in
set_option maxHeartbeats 400000 in
theorem lsum_any (b : List Int) (A : Option Addr) (cap : Nat) (w : World) (hr : Rd w .u8 A b) (h8 : Byte8 b) (hl : b.length ≤ 100000000) :
    Calls Try.prog 12 #[.slice A b.length cap] w fun e w' => e = .returned (.int .u64 (Fx.sum b)) ∧ w' = w := by
  go_enter Try.func12, Try.ntmps12
  go_wp2
  go_loopw [3, 9] (fun sv iv wr => ∃ i : Nat, i ≤ b.length ∧ iv = .int .i64 i ∧ sv = .int .u64 (Fx.sum (b.take i)) ∧ wr = w) (fun _ iv _ => b.length - (intOf iv).toNat)
  case atStart => exact ⟨0, by omega, rfl, rfl, rfl⟩
  case round =>
    obtain ⟨i, hi, rfl, rfl, rfl⟩ := hrel
    by_cases hil : i < b.length
    · obtain ⟨c, hc⟩ : ∃ c, b[i]? = some c := ⟨_, List.getElem?_eq_getElem hil⟩
      have hl1 : decide ((i : Int) < (b.length : Int)) = true := by simp; omega
      have hst := Lib.hid (sum_take hc)
      have hlt := Fx.sum_lt (b.take i)
      obtain ⟨h0, h1⟩ := h8 c (List.mem_of_getElem? hc)
      rcases hr with rfl | ⟨bb, off, rfl, hbb, hcell⟩
      · simp at hc
      have hx := hcell i hil
      rw [hc] at hx
      simp only [Option.getD_some] at hx
      obtain ⟨S, hS⟩ : ∃ S, Fx.sum (b.take i) = S := ⟨_, rfl⟩
      rw [hS] at hst hlt
      rw [hS]
      have hxor : bits .xor .u64 ((S : Int) % 256) c = ((S % 256 ^^^ c.toNat : Nat) : Int) := by
        have := xor64 (S % 256) c (by omega) h0 h1
        rwa [show ((S % 256 : Nat) : Int) = (S : Int) % 256 by omega] at this
      have hlow := Lib.hid (Fx.low_xor S c.toNat (by omega))
      have hXl : S % 256 ^^^ c.toNat < 256 := Nat.xor_lt_two_pow (n := 8) (by omega) (by omega)
      obtain ⟨X, hX⟩ : ∃ X, S % 256 ^^^ c.toNat = X := ⟨_, rfl⟩
      rw [hX] at hxor hXl hlow
      have hu : Fx.stp S c = (S - S % 256 + X) * 16777619 % 4294967296 := by unfold Fx.stp; rw [hlow.out]
      have HU := Lib.hid hu
      clear hS hcell hc hX hu hlow
      go_wp2
      go_roundw
      case rel => exact ⟨i + 1, by omega, by go_num, congrArg (Value.int .u64) (by rw [hst.out, HU.out]; omega), trivial⟩
      case measure => simp [intOf]; omega
    · have hl1 : decide ((i : Int) < (b.length : Int)) = false := by simp; omega
      obtain rfl : i = b.length := by omega
      rw [List.take_length]
      go_wp2
      go_ret
      exact ⟨rfl, rfl⟩

/-- the four bytes of a sum as cells -/
def bytes4 (S : Nat) : Array Value := #[.int .u8 ((S : Int) % 256), .int .u8 ((S : Int) / 256 % 256), .int .u8 ((S : Int) / 65536 % 256), .int .u8 ((S : Int) / 16777216)]
theorem bytes4_four {S : Nat} (h : S < 4294967296) : (bytes4 S).toList = (Fx.four S).map (Value.int .u8) := by
  unfold bytes4 Fx.four
  simp only [List.map_cons, List.map_nil, List.cons.injEq, Value.int.injEq, true_and, and_true]
  omega
set_option maxRecDepth 100000 in
set_option maxHeartbeats 400000 in
theorem placed_any (S : Nat) (hS : S < 4294967296) (w : World) : Calls Try.prog 19 #[.int .u32 S] w fun e w' => e = .returned (.agg (bytes4 S)) ∧ Below w.heap.size w w' := by
  go_enter Try.func19, Try.ntmps19
  go_wp2
  go_rounds 5
  go_returns
  exact ⟨rfl, ((Below.refl _ w).alloc (Nat.le_refl _) _).alloc (by simp) _⟩

end Go.Proofs.Ytanbbomdidefjaa
