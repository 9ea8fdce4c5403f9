/- Contracts of the reference's Bytes; text.Put at the law's call. -/
import Derived.Test.YtdoglpaggmdnpaaTt
import Derived.Laws.CopyOwn
namespace Go.Proofs.Ytdoglpaggmdnpaa
open Go.RowKit

def BytesPost (r : Int) (w : World) (e : Ending) (w' : World) : Prop :=
  e = .returned (.slice (some ⟨w.heap.size, 0, none⟩) (Tx.enc1 r).length (Tx.enc1 r).length) ∧ w' = w.alloc (.cells ((Tx.enc1 r).map (Value.int .u8)).toArray 5)

set_option maxRecDepth 100000 in
set_option maxHeartbeats 600000 in
theorem bytes_bad (r : Int) (h : r < 0 ∨ 1114111 < r ∨ 55296 ≤ r ∧ r ≤ 57343) (w : World) (_hb0 : -2147483648 ≤ r) (_hb1 : r ≤ 2147483647) : Calls Try.prog 15 #[.int .i32 r] w (BytesPost r w) := by
  have he : Tx.enc1 r = [239, 191, 189] := by
    have hs : Tx.san r = 65533 := by unfold Tx.san; rw [if_pos h]
    unfold Tx.enc1; rw [hs]; decide
  have HE := Lib.hid he
  clear he
  have hwr : wrap64 r = r := by unfold wrap64; omega
  rcases h with h | h | ⟨h, h'⟩
  all_goals
    go_enter Try.func15, Try.ntmps15
    go_wp2
    all_goals
      go_ret
      unfold BytesPost
      rw [HE.out]
      exact ⟨rfl, rfl⟩

set_option maxRecDepth 100000 in
set_option maxHeartbeats 600000 in
theorem bytes_1 (r : Int) (h0 : 0 ≤ r) (h1 : r < 128) (w : World) : Calls Try.prog 15 #[.int .i32 r] w (BytesPost r w) := by
  have he : Tx.enc1 r = [r] := by
    have hs : Tx.san r = r := by unfold Tx.san; rw [if_neg (by omega)]
    unfold Tx.enc1; rw [hs]; unfold Tx.enc0; rw [if_pos (by omega)]
  have HE := Lib.hid he
  clear he
  go_enter Try.func15, Try.ntmps15
  go_wp2
  go_ret
  unfold BytesPost
  rw [HE.out]
  exact ⟨rfl, rfl⟩

set_option maxRecDepth 100000 in
set_option maxHeartbeats 600000 in
theorem bytes_2 (r : Int) (h0 : 128 ≤ r) (h1 : r < 2048) (w : World) : Calls Try.prog 15 #[.int .i32 r] w (BytesPost r w) := by
  have he : Tx.enc1 r = [192 + r / 64, 128 + r % 64] := by
    have hs : Tx.san r = r := by unfold Tx.san; rw [if_neg (by omega)]
    unfold Tx.enc1; rw [hs]; unfold Tx.enc0; rw [if_neg (by omega), if_pos (by omega)]
  have HE := Lib.hid he
  clear he
  go_enter Try.func15, Try.ntmps15
  go_wp2
  go_ret
  unfold BytesPost
  rw [HE.out]
  exact ⟨rfl, rfl⟩

set_option maxRecDepth 100000 in
set_option maxHeartbeats 600000 in
theorem bytes_3a (r : Int) (h0 : 2048 ≤ r) (h1 : r < 55296) (w : World) : Calls Try.prog 15 #[.int .i32 r] w (BytesPost r w) := by
  have he : Tx.enc1 r = [224 + r / 4096, 128 + r / 64 % 64, 128 + r % 64] := by
    have hs : Tx.san r = r := by unfold Tx.san; rw [if_neg (by omega)]
    unfold Tx.enc1; rw [hs]; unfold Tx.enc0; rw [if_neg (by omega), if_neg (by omega), if_pos (by omega)]
  have HE := Lib.hid he
  clear he
  go_enter Try.func15, Try.ntmps15
  go_wp2
  go_ret
  unfold BytesPost
  rw [HE.out]
  exact ⟨rfl, rfl⟩

set_option maxRecDepth 100000 in
set_option maxHeartbeats 600000 in
theorem bytes_3b (r : Int) (h0 : 57343 < r) (h1 : r < 65536) (w : World) : Calls Try.prog 15 #[.int .i32 r] w (BytesPost r w) := by
  have he : Tx.enc1 r = [224 + r / 4096, 128 + r / 64 % 64, 128 + r % 64] := by
    have hs : Tx.san r = r := by unfold Tx.san; rw [if_neg (by omega)]
    unfold Tx.enc1; rw [hs]; unfold Tx.enc0; rw [if_neg (by omega), if_neg (by omega), if_pos (by omega)]
  have HE := Lib.hid he
  clear he
  go_enter Try.func15, Try.ntmps15
  go_wp2
  go_ret
  unfold BytesPost
  rw [HE.out]
  exact ⟨rfl, rfl⟩

set_option maxRecDepth 100000 in
set_option maxHeartbeats 600000 in
theorem bytes_4 (r : Int) (h0 : 65536 ≤ r) (h1 : r ≤ 1114111) (w : World) : Calls Try.prog 15 #[.int .i32 r] w (BytesPost r w) := by
  have he : Tx.enc1 r = [240 + r / 262144, 128 + r / 4096 % 64, 128 + r / 64 % 64, 128 + r % 64] := by
    have hs : Tx.san r = r := by unfold Tx.san; rw [if_neg (by omega)]
    unfold Tx.enc1; rw [hs]; unfold Tx.enc0; rw [if_neg (by omega), if_neg (by omega), if_neg (by omega)]
  have HE := Lib.hid he
  clear he
  go_enter Try.func15, Try.ntmps15
  go_wp2
  go_ret
  unfold BytesPost
  rw [HE.out]
  exact ⟨rfl, rfl⟩

theorem bytes_any (r : Int) (hb0 : -2147483648 ≤ r) (hb1 : r ≤ 2147483647) (w : World) : Calls Try.prog 15 #[.int .i32 r] w (BytesPost r w) := by
  by_cases h : r < 0 ∨ 1114111 < r ∨ 55296 ≤ r ∧ r ≤ 57343
  · exact bytes_bad r h w hb0 hb1
  · by_cases h1 : r < 128
    · exact bytes_1 r (by omega) h1 w
    · by_cases h2 : r < 2048
      · exact bytes_2 r (by omega) h2 w
      · by_cases h3 : r < 55296
        · exact bytes_3a r (by omega) h3 w
        · by_cases h4 : r < 65536
          · exact bytes_3b r (by omega) h4 w
          · exact bytes_4 r (by omega) (by omega) w

def zero5 : List Value := [.int .u8 0, .int .u8 0, .int .u8 0, .int .u8 0, .int .u8 0]
theorem make15 (w : World) : (Instr.makeSlice 22 (.int .i64 1) (.int .i64 5)).run Try.prog w = .ok (.slice (some ⟨w.heap.size, 0, none⟩) 1 5) (w.alloc (.cells zero5.toArray 5)) := by kernel_rfl
theorem heap_new (w : World) (o : Obj) : (w.alloc o).heap[w.heap.size]? = some o := by
  show (w.heap.push o)[w.heap.size]? = some o
  simp

set_option maxRecDepth 100000 in
set_option maxHeartbeats 600000 in
theorem put_ab (g : Nat) (w : World) (hg : g < w.heap.size) (hc : w.cell? ⟨g, 0, none⟩ = some (.int .u8 97)) :
    Calls Try.prog 17 #[.slice (some ⟨g, 0, none⟩) 1 1, .int .i32 98] w fun e w' => ∃ v, e = .returned v ∧ w'.ownsRow w.heap.size 5 1 v 2 ([97, 98].map (Value.int .u8)) ∧ Below w.heap.size w w' := by
  have hmk := make15
  have hin : (Try.prog.info? 5).map (·.size) = some 1 := by kernel_rfl
  have hcw : ∀ j v, ([.int .u8 97] : List Value)[j]? = some v → (w.alloc (.cells zero5.toArray 5)).cell? ((⟨g, 0, none⟩ : Addr).add j) = some v := by
    intro j v hj
    match j, hj with
    | 0, hj =>
      simp at hj
      subst hj
      simp only [Addr.add, if_pos]
      rw [World.cell?_alloc_lt _ _ _ hg]
      exact hc
  have HCW := Lib.hid hcw
  clear hcw
  go_enter Try.func17, Try.ntmps17
  go_wp2_with (first
    | (with_reducible refine wpList_copy_splice rfl _ _ 22 22 rfl 5 Try.underlying22 hin (some ⟨w.heap.size, 0, none⟩) (some ⟨g, 0, none⟩) 1 5 1 1 rfl rfl w.heap.size 0 zero5 5 (heap_new w _) [.int .u8 97] rfl (fun _ => ⟨rfl, _, rfl, HCW.out⟩) (by decide) (by simp [Value.oneCell']) w.heap.size w ((Below.refl _ _).alloc (Nat.le_refl _) _) (Nat.le_refl _) ?_; intro w2 hh hb2))
  have hown : w2.ownsRow w.heap.size 5 1 (.slice (some ⟨w.heap.size, 0, none⟩) 1 5) 1 ([97].map (Value.int .u8)) := ⟨rfl, .inr ⟨w.heap.size, 5, _, rfl, Nat.le_refl _, hh.out, by omega, by decide, by decide, rfl⟩⟩
  refine (appendRune_any 98 (by omega) (by omega) _ 1 w.heap.size [97] w2 hown hb2.size (by omega)).mono ?_
  rintro e w3 ⟨v3, rfl, h3, hg3⟩
  go_wp2
  go_ret
  exact ⟨_, rfl, h3, hb2.grown hg3 hb2.size (fun k e => (hown.lt k e).1)⟩

end Go.Proofs.Ytdoglpaggmdnpaa
