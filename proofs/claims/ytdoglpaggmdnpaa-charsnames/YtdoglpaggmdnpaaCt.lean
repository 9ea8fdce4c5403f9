/- The contract of chars.taken. -/
import Derived.Test.YtdoglpaggmdnpaaRows
import Derived.Test.YtdoglpaggmdnpaaCx
import Derived.Test.YtdoglpaggmdnpaaMem
import Derived.WalkKit
import Derived.WalkSpells
import Derived.Lib.Hide
import Derived.BigQuiet
import Derived.Deep.QuietTactic
namespace Go.Proofs.Ytdoglpaggmdnpaa
open Go.RowKit

theorem ret_ib {a b : Int} {c d : Bool} (h : a = b) (h2 : c = d) : Ending.returned (.tuple #[.int .i64 a, .bool c]) = .returned (.tuple #[.int .i64 b, .bool d]) := by rw [h, h2]

theorem wrap32_u8 (c : UInt8) : wrap32 (c.toNat : Int) = (c.toNat : Int) := by
  have h := c.toNat_lt
  simp only [wrap32]
  omega
theorem byte_at (s : ByteArray) (k : Nat) (h : k < s.size) : s.data.toList[k]?.getD 0 = s[k] := by
  have h2 : k < s.data.size := h
  rw [List.getElem?_eq_getElem (by simpa using h2)]
  rfl

set_option maxHeartbeats 400000 in
theorem taken_any (rs : List Int) (A : Option Addr) (cap : Nat) (s : ByteArray) (sg : Int) (bare : Bool) (w : World) (hr : Rd w .i32 A rs) (hl : rs.length ≤ 1000000) (hs : s.size ≤ 1000) (hs0 : 0 < s.size) :
    Calls Try.prog 32 #[.slice A rs.length cap, .agg #[.string s, .int .i32 sg, .bool bare]] w fun e w' =>
      e = .returned (.tuple #[.int .i64 (Cx.taken rs s.data.toList bare).1, .bool (Cx.taken rs s.data.toList bare).2]) ∧ Below w.heap.size w w' := by
  by_cases hlen : rs.length < s.size
  · go_enter Try.func32, Try.ntmps32
    go_wp2
    go_ret2
    refine ⟨ret_ib ?_ ?_, (Below.refl _ _).alloc (Nat.le_refl _) _⟩
    · rw [Cx.taken_short _ _ _ (by simpa using hlen)]; rfl
    · rw [Cx.taken_short _ _ _ (by simpa using hlen)]
  · have hle : s.size ≤ rs.length := by omega
    obtain ⟨b, off, rfl, hb, hc⟩ := hr.pos (by omega)
    go_enter Try.func32, Try.ntmps32
    go_wp2
    go_loopw [16] (fun i wr => ∃ k : Nat, k ≤ s.size ∧ i = .int .i64 k ∧ (∀ j, j < k → rs[j]?.getD 0 = ((s.data.toList[j]?.getD 0).toNat : Int)) ∧ ∃ n, wr = (w.alloc (.cells #[.string s, .int .i32 sg, .bool bare] 45)).drewN n)
      (fun i _ => s.size - (intOf i).toNat)
    case atStart => exact ⟨0, Nat.zero_le _, rfl, fun j hj => absurd hj (by omega), 0, rfl⟩
    case round =>
      obtain ⟨k, hk, rfl, hm, n, rfl⟩ := hrel
      have HM := Lib.hid hm
      clear hm
      by_cases hlt : k < s.size
      · have hck := hc k (by omega)
        have hkr : k < rs.length := by omega
        have hwr := wrap32_u8 s[k]
        have HE := Lib.hid (show rs[k]?.getD 0 = rs[k] by simp [hkr])
        have HF := Lib.hid (byte_at s k hlt)
        clear hc hr
        go_wp2
        go_quiet (fail)
        go_wp2
        · have hne : (rs[k] != (s[k].toNat : Int)) = true := by assumption
          go_ret2
          have ht : Cx.taken rs s.data.toList bare = (0, false) := Cx.taken_miss _ _ _ k (by simpa using hlt) (by rw [HE.out, HF.out]; simpa using hne)
          exact ⟨ret_ib (by rw [ht]; rfl) (by rw [ht]), below_drewN (below_drewN ((Below.refl _ _).alloc (Nat.le_refl _) _) _) _⟩
        · have heq : (rs[k] != (s[k].toNat : Int)) = false := by assumption
          go_roundw
          case rel =>
            refine ⟨k + 1, by omega, by go_num, fun j hj => ?_, _, rfl⟩
            by_cases hjk : j < k
            · exact HM.out j hjk
            · have : j = k := by omega
              subst this
              rw [HE.out, HF.out]; simpa using heq
          case measure => simp [intOf]; omega
      · have hks : k = s.size := by omega
        have HK := Lib.hid hks
        have hp : Cx.pre s.data.toList rs = true := (Cx.pre_iff _ _).2 ⟨by simpa using hle, fun j hj => HM.out j (by rw [hks]; simpa using hj)⟩
        have HP := Lib.hid hp
        have hce := hc s.size
        clear hks hp hc hr
        go_wp2
        all_goals
          go_ret2
          refine ⟨?_, (below_drewN ((Below.refl _ _).alloc (Nat.le_refl _) _) _)⟩
        · have h1 : s.size < rs.length := by assumption
          have h2 : (rs[s.size] == 59) = true := by assumption
          have ht := Cx.taken_semi rs s.data.toList bare HP.out (by simpa [h1] using h2)
          exact ret_ib (by rw [ht]; simp) (by rw [ht])
        · have h1 : s.size < rs.length := by assumption
          have h2 : (rs[s.size] == 59) = false := by assumption
          have h3 : bare = true := by assumption
          have ht := Cx.taken_bare rs s.data.toList bare HP.out (by simpa [h1] using h2)
          exact ret_ib (by rw [ht, h3]; simp) (by rw [ht, h3]; rfl)
        · have h1 : s.size < rs.length := by assumption
          have h2 : (rs[s.size] == 59) = false := by assumption
          have h3 : bare = false := by assumption
          have ht := Cx.taken_bare rs s.data.toList bare HP.out (by simpa [h1] using h2)
          exact ret_ib (by rw [ht, h3]; simp) (by rw [ht, h3]; rfl)
        · have h1 : ¬ s.size < rs.length := by assumption
          have h3 : bare = true := by assumption
          have ht := Cx.taken_bare rs s.data.toList bare HP.out (by simp [h1])
          exact ret_ib (by rw [ht, h3]; simp) (by rw [ht, h3]; rfl)
        · have h1 : ¬ s.size < rs.length := by assumption
          have h3 : bare = false := by assumption
          have ht := Cx.taken_bare rs s.data.toList bare HP.out (by simp [h1])
          exact ret_ib (by rw [ht, h3]; simp) (by rw [ht, h3]; rfl)

end Go.Proofs.Ytdoglpaggmdnpaa
