/- Contracts of num.putNum, withRoom, Put, Text, and of the law's own put. -/
import Derived.Test.YtanbbomdidefjaaGm
import Derived.Test.YtanbbomdidefjaaNx
namespace Go.Proofs.Ytanbbomdidefjaa
open Go.RowKit

/-- what is laid behind a row of the call's own -/
def PutPost (base n : Nat) (xs ys : List Int) (w : World) (e : Ending) (w' : World) : Prop :=
  ∃ v', e = .returned v' ∧ w'.ownsRow base 5 1 v' (n + ys.length) ((xs ++ ys).map (Value.int .u8)) ∧ Below base w w'

theorem or128 (k : Nat) : bits .or .u8 ((k : Int) % 128) 128 = 128 + (k : Int) % 128 := by
  have := u8_or_nat (k % 128) 128 (by omega) (by omega)
  rw [Nat.or_comm, nat_join 7 128 (k % 128) (by decide) (by omega)] at this
  have e : ((k % 128 : Nat) : Int) = (k : Int) % 128 := by omega
  rw [e, show ((128 : Nat) : Int) = 128 from rfl] at this
  rw [this]
  omega
theorem and127 (k : Nat) (h : k < 18446744073709551616) : bits .and .u64 (k : Int) 127 = (k : Int) % 128 := by
  have := u64_and_nat k 127 h (by omega)
  rw [nat_mask7, show ((127 : Nat) : Int) = 127 from rfl] at this
  rw [this]
  omega

set_option maxRecDepth 100000 in
set_option maxHeartbeats 400000 in
theorem putNum_any (m : Nat) (hm : m < 18446744073709551616) (v : Value) (n base : Nat) (xs : List Int) (w : World) (hown : w.ownsRow base 5 1 v n (xs.map (Value.int .u8))) (hbase : base ≤ w.heap.size) (hn : n ≤ 1000000) :
    Calls Try.prog 22 #[v, .int .u64 m] w (PutPost base n xs (Nx.put m) w) := by
  obtain ⟨i0, hi, hz0, hz1, hz2⟩ := info_parts infoU8
  have HM := Lib.hid hm
  have hpl := Nx.put_len m hm
  clear hm
  go_enter Try.func22, Try.ntmps22
  go_wp2
  go_loopw [0, 1] (fun b u wr => ∃ (pre : List Int) (k : Nat), u = .int .u64 k ∧ k ≤ m ∧ pre ++ Nx.put k = Nx.put m ∧ wr.ownsRow base 5 1 b (n + pre.length) ((xs ++ pre).map (Value.int .u8)) ∧ Below base w wr)
    (fun _ u _ => (intOf u).toNat)
  case atStart => exact ⟨[], m, rfl, Nat.le_refl _, rfl, by simpa using hown, Below.refl _ _⟩
  case round =>
    obtain ⟨pre, k, rfl, hk, hpre, hrow, hB⟩ := hrel
    have hpl2 : pre.length + (Nx.put k).length ≤ 10 := by rw [← List.length_append, hpre]; exact hpl
    have HP := Lib.hid hpre
    have hbz := hB.size
    have e1 := and127 k (by have := HM.out; omega)
    have e2 := or128 k
    clear hpre
    by_cases hlt : 127 < k
    · go_wp2_with (at_builtin; refine wpList_append_own _ rfl _ _ 24 rfl base 5 i0 (.int .u8 0) 1 1 Try.underlying24 hi hz0 hz1 hz2 rfl (by decide) u0 _ _ rfl (hrow.alloc _) ⟨wr.heap.size, 0, none⟩ 1 1 ([128 + (k : Int) % 128].map (Value.int .u8)) rfl rfl (cells_new wr _ _) (ints_one _) (by unfold maxLen; omega) (by omega) (by simp; omega) ?_; intro v1' w2 hown1 hgrow1 hnn; clear hnn)
      go_roundw
      case rel =>
        refine ⟨pre ++ [128 + (k : Int) % 128], k / 128, by go_num, by omega, ?_, ?_, (hB.alloc (by omega) _).grown hgrow1 (by simp; omega) (fun j e => (hrow.lt j e).1)⟩
        · rw [← HP.out, Nx.put_hi (n := k) (by omega)]
          simp
        · rw [← List.append_assoc, List.map_append, List.length_append, ← Nat.add_assoc]
          exact hown1
      case measure => simp [intOf]; omega
    · go_wp2_with (at_builtin; refine wpList_append_own _ rfl _ _ 24 rfl base 5 i0 (.int .u8 0) 1 1 Try.underlying24 hi hz0 hz1 hz2 rfl (by decide) u0 _ _ rfl (hrow.alloc _) ⟨wr.heap.size, 0, none⟩ 1 1 ([(k : Int)].map (Value.int .u8)) rfl rfl (cells_new wr _ _) (ints_one _) (by unfold maxLen; omega) (by omega) (by simp; omega) ?_; intro v1' w2 hown1 hgrow1 hnn; clear hnn)
      go_ret
      refine ⟨_, rfl, ?_, (hB.alloc (by omega) _).grown hgrow1 (by simp; omega) (fun j e => (hrow.lt j e).1)⟩
      rw [← HP.out, Nx.put_lo (n := k) (by omega), ← List.append_assoc, List.map_append, List.length_append, ← Nat.add_assoc]
      exact hown1

theorem wrap_div (k : Nat) (h : k < 18446744073709551616) : IntKind.u64.wrap ((k : Int) / 128) = (k : Int) / 128 := by
  simp [IntKind.wrap, IntKind.bits, IntKind.signed]
  omega
/-- a row of the call's own -/
def Made (xs : List Int) (w : World) (e : Ending) (w' : World) : Prop :=
  ∃ v', e = .returned v' ∧ w'.ownsRow w.heap.size 5 1 v' xs.length (xs.map (Value.int .u8)) ∧ Below w.heap.size w w'

set_option maxHeartbeats 400000 in
theorem withRoom_any (b : List Int) (A : Option Addr) (cap more : Nat) (w : World) (hr : Rd w .u8 A b) (hA : A = none → cap = 0) (hl : b.length ≤ 1000000) (hmore : more ≤ 1000000) :
    Calls Try.prog 23 #[.slice A b.length cap, .int .i64 more] w (Made b w) := by
  obtain ⟨i0, hi, hz0, hz1, hz2⟩ := info_parts infoU8
  go_enter Try.func23, Try.ntmps23
  go_wp2_with (first
    | (at_make; refine wpList_make_own _ rfl _ _ 24 rfl w.heap.size 5 i0 (.int .u8 0) 1 Try.underlying24 hi hz0 hz1 .i64 .i64 _ (b.length + more) rfl rfl (by omega) (by rw [hz2]; omega) (by unfold maxLen; omega) (Nat.le_refl _) ?_; intro w0 hown0 hgrow0; have hb0 : Below w.heap.size w w0 := (Below.refl _ _).grown hgrow0 (Nat.le_refl _) (fun k e => by cases e))
    | (at_builtin; refine wpList_append_rd rfl 24 rfl w.heap.size 5 i0 (.int .u8 0) 1 Try.underlying24 hi hz0 hz1 hz2 _ 0 [] rfl hown0 A b.length cap rfl b .u8 rfl (hr.below hb0) hA rfl (by unfold maxLen; omega) (by omega) hb0.size ?_; intro v1 w1 hown1 hgrow1; simp only [Nat.zero_add, List.nil_append] at hown1))
  go_ret
  exact ⟨_, rfl, hown1, hb0.grown hgrow1 hb0.size (fun k e => by cases e; exact Nat.le_refl _)⟩

set_option maxHeartbeats 400000 in
theorem Put_any (b : List Int) (A : Option Addr) (cap m : Nat) (w : World) (hr : Rd w .u8 A b) (hA : A = none → cap = 0) (hl : b.length ≤ 1000000) (hm : m < 18446744073709551616) :
    Calls Try.prog 13 #[.slice A b.length cap, .int .u64 m] w (Made (b ++ Nx.put m) w) := by
  have HM := Lib.hid hm
  clear hm
  go_enter Try.func13, Try.ntmps13
  go_wp2_with fail
  refine (withRoom_any b A cap 10 _ hr hA hl (by omega)).mono ?_
  rintro e w1 ⟨v1, rfl, hown1, hb1⟩
  go_wp2_with fail
  refine (putNum_any m HM.out v1 b.length w.heap.size b _ hown1 hb1.size hl).mono ?_
  rintro e w2 ⟨v2, rfl, hown2, hb2⟩
  go_wp2
  go_ret
  exact ⟨_, rfl, by rw [List.length_append]; exact hown2, hb1.trans hb2⟩

end Go.Proofs.Ytanbbomdidefjaa
