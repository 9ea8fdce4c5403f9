/- Contracts of utf8.AppendRune. -/
import Derived.Test.YtdoglpaggmdnpaaTs
namespace Go.Proofs.Ytdoglpaggmdnpaa
open Go.RowKit
namespace Tx

/-- what is no sign, as that which stands for such -/
def san (r : Int) : Int := if r < 0 ∨ 1114111 < r ∨ 55296 ≤ r ∧ r ≤ 57343 then 65533 else r
/-- the bytes of a sign -/
def enc0 (n : Int) : List Int :=
  if n < 128 then [n] else if n < 2048 then [192 + n / 64, 128 + n % 64] else if n < 65536 then [224 + n / 4096, 128 + n / 64 % 64, 128 + n % 64]
  else [240 + n / 262144, 128 + n / 4096 % 64, 128 + n / 64 % 64, 128 + n % 64]
def enc1 (r : Int) : List Int := enc0 (san r)
end Tx

def RunePost (base n : Nat) (xs ys : List Int) (v : Value) (w : World) (e : Ending) (w' : World) : Prop :=
  ∃ v', e = .returned v' ∧ w'.ownsRow base 5 1 v' (n + ys.length) ((xs ++ ys).map (Value.int .u8)) ∧ w.grownBy w' v.ownBlock

theorem cells_new (w : World) (l : List Value) (t : TypeId) : ∀ j u, l[j]? = some u → (w.alloc (.cells l.toArray t)).cell? ((⟨w.heap.size, 0, none⟩ : Addr).add j) = some u := by
  intro j u hu
  have : (⟨w.heap.size, 0, none⟩ : Addr).add j = ⟨w.heap.size, j, none⟩ := by unfold Addr.add; split <;> simp_all
  rw [this, World.cell?_alloc_new]
  simpa using hu
theorem grown_after {w w' : World} {o : Obj} {row : Option Nat} (h : (w.alloc o).grownBy w' row) : w.grownBy w' row :=
  ⟨h.os, h.tape, h.output, Nat.le_trans (by simp) h.size, fun k hk hne => (h.block k (by simp; omega) hne).trans (Below.heap_alloc w o k hk)⟩

set_option maxRecDepth 100000 in
set_option maxHeartbeats 600000 in
theorem non2 (r : Int) (h0 : 128 ≤ r) (h1 : r < 2048) (v : Value) (n base : Nat) (xs : List Int) (w : World) (hown : w.ownsRow base 5 1 v n (xs.map (Value.int .u8))) (hbase : base ≤ w.heap.size) (hn : n ≤ 1000000) :
    Calls Try.prog 38 #[v, .int .i32 r] w (RunePost base n xs (Tx.enc0 r) v w) := by
  obtain ⟨i0, hi, hz0, hz1, hz2⟩ := info_parts infoU8
  have hys : (Tx.enc0 r) = [192 + r / 64, 128 + r % 64] := by unfold Tx.enc0; rw [if_neg (by omega), if_pos (by omega)]
  rw [hys]
  clear hys
  go_enter Try.func38, Try.ntmps38
  go_wp2_with (at_builtin; refine wpList_append_own _ rfl _ _ 22 rfl base 5 i0 (.int .u8 0) 1 1 Try.underlying22 hi hz0 hz1 hz2 rfl (by decide) v n (xs.map (Value.int .u8)) rfl (hown.alloc _) ⟨w.heap.size, 0, none⟩ 2 2 ([192 + r / 64, 128 + r % 64].map (Value.int .u8)) rfl rfl (cells_new w _ _) (by simp [Value.oneCell']) (by unfold maxLen; omega) (by omega) (by simp; omega) ?_; intro v1' w2 hown1 hgrow1 hnn; clear hnn)
  go_ret
  exact ⟨_, rfl, by rw [List.map_append]; exact hown1, grown_after hgrow1⟩

set_option maxRecDepth 100000 in
set_option maxHeartbeats 600000 in
theorem non3a (r : Int) (h0 : 2048 ≤ r) (h1 : r < 55296) (v : Value) (n base : Nat) (xs : List Int) (w : World) (hown : w.ownsRow base 5 1 v n (xs.map (Value.int .u8))) (hbase : base ≤ w.heap.size) (hn : n ≤ 1000000) :
    Calls Try.prog 38 #[v, .int .i32 r] w (RunePost base n xs (Tx.enc0 r) v w) := by
  obtain ⟨i0, hi, hz0, hz1, hz2⟩ := info_parts infoU8
  have hys : (Tx.enc0 r) = [224 + r / 4096, 128 + r / 64 % 64, 128 + r % 64] := by unfold Tx.enc0; rw [if_neg (by omega), if_neg (by omega), if_pos (by omega)]
  rw [hys]
  clear hys
  go_enter Try.func38, Try.ntmps38
  go_wp2_with (at_builtin; refine wpList_append_own _ rfl _ _ 22 rfl base 5 i0 (.int .u8 0) 1 1 Try.underlying22 hi hz0 hz1 hz2 rfl (by decide) v n (xs.map (Value.int .u8)) rfl (hown.alloc _) ⟨w.heap.size, 0, none⟩ 3 3 ([224 + r / 4096, 128 + r / 64 % 64, 128 + r % 64].map (Value.int .u8)) rfl rfl (cells_new w _ _) (by simp [Value.oneCell']) (by unfold maxLen; omega) (by omega) (by simp; omega) ?_; intro v1' w2 hown1 hgrow1 hnn; clear hnn)
  go_ret
  exact ⟨_, rfl, by rw [List.map_append]; exact hown1, grown_after hgrow1⟩

set_option maxRecDepth 100000 in
set_option maxHeartbeats 600000 in
theorem non3b (r : Int) (h0 : 57343 < r) (h1 : r < 65536) (v : Value) (n base : Nat) (xs : List Int) (w : World) (hown : w.ownsRow base 5 1 v n (xs.map (Value.int .u8))) (hbase : base ≤ w.heap.size) (hn : n ≤ 1000000) :
    Calls Try.prog 38 #[v, .int .i32 r] w (RunePost base n xs (Tx.enc0 r) v w) := by
  obtain ⟨i0, hi, hz0, hz1, hz2⟩ := info_parts infoU8
  have hys : (Tx.enc0 r) = [224 + r / 4096, 128 + r / 64 % 64, 128 + r % 64] := by unfold Tx.enc0; rw [if_neg (by omega), if_neg (by omega), if_pos (by omega)]
  rw [hys]
  clear hys
  go_enter Try.func38, Try.ntmps38
  go_wp2_with (at_builtin; refine wpList_append_own _ rfl _ _ 22 rfl base 5 i0 (.int .u8 0) 1 1 Try.underlying22 hi hz0 hz1 hz2 rfl (by decide) v n (xs.map (Value.int .u8)) rfl (hown.alloc _) ⟨w.heap.size, 0, none⟩ 3 3 ([224 + r / 4096, 128 + r / 64 % 64, 128 + r % 64].map (Value.int .u8)) rfl rfl (cells_new w _ _) (by simp [Value.oneCell']) (by unfold maxLen; omega) (by omega) (by simp; omega) ?_; intro v1' w2 hown1 hgrow1 hnn; clear hnn)
  go_ret
  exact ⟨_, rfl, by rw [List.map_append]; exact hown1, grown_after hgrow1⟩

set_option maxRecDepth 100000 in
set_option maxHeartbeats 600000 in
theorem non4 (r : Int) (h0 : 65536 ≤ r) (h1 : r ≤ 1114111) (v : Value) (n base : Nat) (xs : List Int) (w : World) (hown : w.ownsRow base 5 1 v n (xs.map (Value.int .u8))) (hbase : base ≤ w.heap.size) (hn : n ≤ 1000000) :
    Calls Try.prog 38 #[v, .int .i32 r] w (RunePost base n xs (Tx.enc0 r) v w) := by
  obtain ⟨i0, hi, hz0, hz1, hz2⟩ := info_parts infoU8
  have hys : (Tx.enc0 r) = [240 + r / 262144, 128 + r / 4096 % 64, 128 + r / 64 % 64, 128 + r % 64] := by unfold Tx.enc0; rw [if_neg (by omega), if_neg (by omega), if_neg (by omega)]
  rw [hys]
  clear hys
  go_enter Try.func38, Try.ntmps38
  go_wp2_with (at_builtin; refine wpList_append_own _ rfl _ _ 22 rfl base 5 i0 (.int .u8 0) 1 1 Try.underlying22 hi hz0 hz1 hz2 rfl (by decide) v n (xs.map (Value.int .u8)) rfl (hown.alloc _) ⟨w.heap.size, 0, none⟩ 4 4 ([240 + r / 262144, 128 + r / 4096 % 64, 128 + r / 64 % 64, 128 + r % 64].map (Value.int .u8)) rfl rfl (cells_new w _ _) (by simp [Value.oneCell']) (by unfold maxLen; omega) (by omega) (by simp; omega) ?_; intro v1' w2 hown1 hgrow1 hnn; clear hnn)
  go_ret
  exact ⟨_, rfl, by rw [List.map_append]; exact hown1, grown_after hgrow1⟩

set_option maxRecDepth 100000 in
set_option maxHeartbeats 600000 in
theorem nonA (r : Int) (h0 : 55296 ≤ r) (h1 : r ≤ 57343) (v : Value) (n base : Nat) (xs : List Int) (w : World) (hown : w.ownsRow base 5 1 v n (xs.map (Value.int .u8))) (hbase : base ≤ w.heap.size) (hn : n ≤ 1000000) :
    Calls Try.prog 38 #[v, .int .i32 r] w (RunePost base n xs (Tx.enc0 65533) v w) := by
  obtain ⟨i0, hi, hz0, hz1, hz2⟩ := info_parts infoU8
  have hys : (Tx.enc0 65533) = [239, 191, 189] := by decide
  rw [hys]
  clear hys
  go_enter Try.func38, Try.ntmps38
  go_wp2_with (at_builtin; refine wpList_append_own _ rfl _ _ 22 rfl base 5 i0 (.int .u8 0) 1 1 Try.underlying22 hi hz0 hz1 hz2 rfl (by decide) v n (xs.map (Value.int .u8)) rfl (hown.alloc _) ⟨w.heap.size, 0, none⟩ 3 3 ([239, 191, 189].map (Value.int .u8)) rfl rfl (cells_new w _ _) (by simp [Value.oneCell']) (by unfold maxLen; omega) (by omega) (by simp; omega) ?_; intro v1' w2 hown1 hgrow1 hnn; clear hnn)
  go_ret
  exact ⟨_, rfl, by rw [List.map_append]; exact hown1, grown_after hgrow1⟩

set_option maxRecDepth 100000 in
set_option maxHeartbeats 600000 in
theorem nonB (r : Int) (h0 : 1114111 < r) (h1 : r ≤ 2147483647) (v : Value) (n base : Nat) (xs : List Int) (w : World) (hown : w.ownsRow base 5 1 v n (xs.map (Value.int .u8))) (hbase : base ≤ w.heap.size) (hn : n ≤ 1000000) :
    Calls Try.prog 38 #[v, .int .i32 r] w (RunePost base n xs (Tx.enc0 65533) v w) := by
  obtain ⟨i0, hi, hz0, hz1, hz2⟩ := info_parts infoU8
  have hys : (Tx.enc0 65533) = [239, 191, 189] := by decide
  rw [hys]
  clear hys
  go_enter Try.func38, Try.ntmps38
  go_wp2_with (at_builtin; refine wpList_append_own _ rfl _ _ 22 rfl base 5 i0 (.int .u8 0) 1 1 Try.underlying22 hi hz0 hz1 hz2 rfl (by decide) v n (xs.map (Value.int .u8)) rfl (hown.alloc _) ⟨w.heap.size, 0, none⟩ 3 3 ([239, 191, 189].map (Value.int .u8)) rfl rfl (cells_new w _ _) (by simp [Value.oneCell']) (by unfold maxLen; omega) (by omega) (by simp; omega) ?_; intro v1' w2 hown1 hgrow1 hnn; clear hnn)
  go_ret
  exact ⟨_, rfl, by rw [List.map_append]; exact hown1, grown_after hgrow1⟩

set_option maxRecDepth 100000 in
set_option maxHeartbeats 600000 in
theorem nonC (r : Int) (h0 : -2147483648 ≤ r) (h1 : r < 0) (v : Value) (n base : Nat) (xs : List Int) (w : World) (hown : w.ownsRow base 5 1 v n (xs.map (Value.int .u8))) (hbase : base ≤ w.heap.size) (hn : n ≤ 1000000) :
    Calls Try.prog 38 #[v, .int .i32 r] w (RunePost base n xs (Tx.enc0 65533) v w) := by
  obtain ⟨i0, hi, hz0, hz1, hz2⟩ := info_parts infoU8
  have hys : (Tx.enc0 65533) = [239, 191, 189] := by decide
  rw [hys]
  clear hys
  go_enter Try.func38, Try.ntmps38
  go_wp2_with (at_builtin; refine wpList_append_own _ rfl _ _ 22 rfl base 5 i0 (.int .u8 0) 1 1 Try.underlying22 hi hz0 hz1 hz2 rfl (by decide) v n (xs.map (Value.int .u8)) rfl (hown.alloc _) ⟨w.heap.size, 0, none⟩ 3 3 ([239, 191, 189].map (Value.int .u8)) rfl rfl (cells_new w _ _) (by simp [Value.oneCell']) (by unfold maxLen; omega) (by omega) (by simp; omega) ?_; intro v1' w2 hown1 hgrow1 hnn; clear hnn)
  go_ret
  exact ⟨_, rfl, by rw [List.map_append]; exact hown1, grown_after hgrow1⟩

theorem non_any (r : Int) (hb0 : -2147483648 ≤ r) (hb1 : r ≤ 2147483647) (hr : r < 0 ∨ 128 ≤ r) (v : Value) (n base : Nat) (xs : List Int) (w : World) (hown : w.ownsRow base 5 1 v n (xs.map (Value.int .u8))) (hbase : base ≤ w.heap.size) (hn : n ≤ 1000000) :
    Calls Try.prog 38 #[v, .int .i32 r] w (RunePost base n xs (Tx.enc1 r) v w) := by
  unfold Tx.enc1 Tx.san
  by_cases h : r < 0 ∨ 1114111 < r ∨ 55296 ≤ r ∧ r ≤ 57343
  · rw [if_pos h]
    rcases h with h | h | ⟨h, h'⟩
    · exact nonC r hb0 h v n base xs w hown hbase hn
    · exact nonB r h hb1 v n base xs w hown hbase hn
    · exact nonA r h h' v n base xs w hown hbase hn
  · rw [if_neg h]
    by_cases h2 : r < 2048
    · exact non2 r (by omega) h2 v n base xs w hown hbase hn
    · by_cases h3 : r < 55296
      · exact non3a r (by omega) h3 v n base xs w hown hbase hn
      · by_cases h4 : r < 65536
        · exact non3b r (by omega) h4 v n base xs w hown hbase hn
        · exact non4 r (by omega) (by omega) v n base xs w hown hbase hn

set_option maxRecDepth 100000 in
set_option maxHeartbeats 600000 in
theorem appendRune_any (r : Int) (hb0 : -2147483648 ≤ r) (hb1 : r ≤ 2147483647) (v : Value) (n base : Nat) (xs : List Int) (w : World) (hown : w.ownsRow base 5 1 v n (xs.map (Value.int .u8))) (hbase : base ≤ w.heap.size) (hn : n ≤ 1000000) :
    Calls Try.prog 30 #[v, .int .i32 r] w (RunePost base n xs (Tx.enc1 r) v w) := by
  obtain ⟨i0, hi, hz0, hz1, hz2⟩ := info_parts infoU8
  by_cases hr : 0 ≤ r ∧ r < 128
  · obtain ⟨hr0, hr1⟩ := hr
    have hys : Tx.enc1 r = [r] := by
      have hs : Tx.san r = r := by unfold Tx.san; rw [if_neg (by omega)]
      unfold Tx.enc1; rw [hs]; unfold Tx.enc0; rw [if_pos (by omega)]
    rw [hys]
    clear hys
    go_enter Try.func30, Try.ntmps30
    go_wp2_with (at_builtin; refine wpList_append_own _ rfl _ _ 22 rfl base 5 i0 (.int .u8 0) 1 1 Try.underlying22 hi hz0 hz1 hz2 rfl (by decide) v n (xs.map (Value.int .u8)) rfl (hown.alloc _) ⟨w.heap.size, 0, none⟩ 1 1 ([r].map (Value.int .u8)) rfl rfl (cells_new w _ _) (by simp [Value.oneCell']) (by unfold maxLen; omega) (by omega) (by simp; omega) ?_; intro v1' w2 hown1 hgrow1 hnn; clear hnn)
    go_ret
    exact ⟨_, rfl, by rw [List.map_append]; exact hown1, grown_after hgrow1⟩
  · have HC := Lib.hid (non_any r hb0 hb1 (by omega) v n base xs w hown hbase hn)
    by_cases hneg : r < 0
    · go_enter Try.func30, Try.ntmps30
      go_wp2_with (go_at_call 38; refine HC.out.mono ?_; rintro e w1 ⟨v', rfl, h1, h2⟩)
      go_ret
      exact ⟨_, rfl, h1, h2⟩
    · have hge : 128 ≤ r := by omega
      go_enter Try.func30, Try.ntmps30
      go_wp2_with (go_at_call 38; refine HC.out.mono ?_; rintro e w1 ⟨v', rfl, h1, h2⟩)
      go_ret
      exact ⟨_, rfl, h1, h2⟩

end Go.Proofs.Ytdoglpaggmdnpaa
