/- The contract of text.Encode. -/
import Derived.Test.YtdoglpaggmdnpaaTe
namespace Go.Proofs.Ytdoglpaggmdnpaa
open Go.RowKit
namespace Tx
def encode (rs : List Int) : List Int := rs.flatMap enc1
theorem enc1_len (r : Int) : (enc1 r).length ≤ 4 ∧ 1 ≤ (enc1 r).length := by
  unfold enc1 enc0
  (repeat' split) <;> simp
theorem encode_len (rs : List Int) : (encode rs).length ≤ 4 * rs.length := by
  induction rs with
  | nil => simp [encode]
  | cons r rs ih =>
    have := enc1_len r
    simp only [encode, List.flatMap_cons, List.length_append, List.length_cons] at ih ⊢
    omega
theorem encode_snoc (rs : List Int) (r : Int) : encode (rs ++ [r]) = encode rs ++ enc1 r := by simp [encode]
end Tx

def EncPost (rs : List Int) (w : World) (e : Ending) (w' : World) : Prop :=
  ∃ v, e = .returned v ∧ w'.ownsRow w.heap.size 5 1 v (Tx.encode rs).length ((Tx.encode rs).map (Value.int .u8)) ∧ Below w.heap.size w w'

set_option maxRecDepth 100000 in
set_option maxHeartbeats 600000 in
theorem encode_any (rs : List Int) (A : Option Addr) (cap : Nat) (w : World) (hr : Rd w .i32 A rs) (hl : rs.length ≤ 100000) (hbd : ∀ i : Nat, -2147483648 ≤ rs[i]?.getD 0 ∧ rs[i]?.getD 0 ≤ 2147483647) :
    Calls Try.prog 16 #[.slice A rs.length cap] w (EncPost rs w) := by
  obtain ⟨i0, hi, hz0, hz1, hz2⟩ := info_parts infoU8
  go_enter Try.func16, Try.ntmps16
  go_wp2_with (at_make; refine wpList_make_own _ rfl _ _ 22 rfl w.heap.size 5 i0 (.int .u8 0) 1 Try.underlying22 hi hz0 hz1 .i64 .i64 _ rs.length rfl rfl rfl (by rw [hz2]; omega) (by unfold maxLen; omega) (Nat.le_refl _) ?_; intro w0 hown0 hgrow0)
  go_loopw [3, 11] (fun v i wr => ∃ k : Nat, i = .int .i64 k ∧ k ≤ rs.length ∧ wr.ownsRow w.heap.size 5 1 v (Tx.encode (rs.take k)).length ((Tx.encode (rs.take k)).map (Value.int .u8)) ∧ Below w.heap.size w wr)
    (fun _ i _ => rs.length - (intOf i).toNat)
  case atStart => exact ⟨0, rfl, by omega, hown0, (Below.refl _ _).grown hgrow0 (Nat.le_refl _) (fun k e => by cases e)⟩
  case round =>
    obtain ⟨k, rfl, hk, hrow, hB⟩ := hrel
    by_cases hlt : k < rs.length
    · obtain ⟨bb, off, rfl, hbb, hcs⟩ := hr.pos (by omega)
      have hck := (hB.cell (p := ⟨bb, off + k, none⟩) hbb).trans (hcs k hlt)
      obtain ⟨r, hrr⟩ : ∃ r, rs[k]?.getD 0 = r := ⟨_, rfl⟩
      have hbk := hbd k
      rw [hrr] at hck hbk
      have hsn : Tx.encode (rs.take (k + 1)) = Tx.encode (rs.take k) ++ Tx.enc1 r := by
        rw [List.take_succ_eq_append_getElem hlt, Tx.encode_snoc]
        congr 1
        rw [List.getElem?_eq_getElem hlt, Option.getD_some] at hrr
        rw [hrr]
      have hln := Tx.encode_len (rs.take k)
      rw [List.length_take] at hln
      have HSN := Lib.hid hsn
      have HC := Lib.hid (fun v (h : wr.ownsRow w.heap.size 5 1 v (Tx.encode (rs.take k)).length ((Tx.encode (rs.take k)).map (Value.int .u8))) => appendRune_any r hbk.1 hbk.2 v _ w.heap.size (Tx.encode (rs.take k)) wr h hB.size (by omega))
      clear hsn hcs hrr hr hbd hln hown0 hgrow0
      go_wp2_with (go_at_call 30; refine (HC.out _ hrow).mono ?_; rintro e w1 ⟨v', rfl, h1, h2⟩)
      go_roundw
      case rel => exact ⟨k + 1, by go_num, by omega, by rw [HSN.out, List.length_append]; exact h1, hB.grown h2 hB.size (fun k e => (hrow.lt k e).1)⟩
      case measure => simp [intOf]; omega
    · go_wp2
      go_ret
      rw [List.take_of_length_le (by omega)] at hrow
      exact ⟨_, rfl, hrow, hB⟩

end Go.Proofs.Ytdoglpaggmdnpaa
