/- Contracts of path.partRune and rightPart. -/
import Derived.Test.YtfkbjniodomdjaaDoorProg
import Derived.Test.YtfkbjniodomdjaaDoorMem
import Derived.Lib.Hide
import Derived.WalkKit
import Derived.Laws.RangeAny
import Derived.LoopTactic
namespace Go.Proofs.YtfkbjniodomdjaaDoor
open Go.RowKit

/-- a sign of a path's part -/
def okR (r : Int) : Bool := (decide (65 ≤ r) && decide (r ≤ 90)) || (decide (97 ≤ r) && decide (r ≤ 122)) || (decide (48 ≤ r) && decide (r ≤ 57)) || r == 46 || r == 45 || r == 95
theorem okR_high {r : Int} (h : 128 ≤ r) : okR r = false := by
  unfold okR
  simp
  omega
/-- a part of a path -/
def partOk (s : ByteArray) : Bool := !(s.toList == []) && !(s.toList == [46]) && !(s.toList == [46, 46]) && s.data.toList.all (fun c => okR c.toNat)

theorem partRune_any (r : Int) (w : World) : Calls Tryd.prog 80 #[.int .i32 r] w fun e w' => e = .returned (.bool (okR r)) ∧ w' = w := by
  go_enter Tryd.func80, Tryd.ntmps80
  go_wp2
  all_goals
    go_ret
    refine ⟨congrArg (fun b => Ending.returned (Value.bool b)) ?_, rfl⟩
    rw [Bool.eq_iff_iff]
    simp [okR] <;> omega

theorem all_take_succ {s : ByteArray} {pos : Nat} (h : pos < s.size) (ha : (s.data.toList.take pos).all (fun c => okR c.toNat) = true) (hc : okR (s[pos]'h).toNat = true) : (s.data.toList.take (pos + 1)).all (fun c => okR c.toNat) = true := by
  have hl : pos < s.data.toList.length := by simpa using h
  have hc' : okR (s.data[pos]'h).toNat = true := hc
  rw [List.take_succ_eq_append_getElem hl, List.all_append, ha]
  simpa using hc'
theorem all_not {s : ByteArray} {pos : Nat} (h : pos < s.size) (hc : okR (s[pos]'h).toNat = false) : s.data.toList.all (fun c => okR c.toNat) = false := by
  have hl : pos < s.data.toList.length := by simpa using h
  have hc' : okR (s.data[pos]'h).toNat = false := hc
  rw [List.all_eq_false]
  exact ⟨_, List.getElem_mem hl, by simpa using hc'⟩

set_option maxRecDepth 100000 in
set_option maxHeartbeats 400000 in
theorem rightPart_any (s : ByteArray) (w : World) : Calls Tryd.prog 59 #[.string s] w fun e w' => e = .returned (.bool (partOk s)) ∧ Below w.heap.size w w' := by
  cases h0 : (s.toList == [])
  · cases h1 : (s.toList == [46])
    · cases h2 : (s.toList == [46, 46])
      · have hp : partOk s = s.data.toList.all (fun c => okR c.toNat) := by unfold partOk; rw [h0, h1, h2]; rfl
        rw [hp]
        clear hp
        go_enter Tryd.func59, Tryd.ntmps59
        go_wp2
        go_loopw [] (fun wr => ∃ pos : Nat, wr = w.iter s pos ∧ pos ≤ s.size ∧ (s.data.toList.take pos).all (fun c => okR c.toNat) = true) (fun wr => s.size - wr.iterPos w.heap.size)
        case atStart => exact ⟨0, rfl, Nat.zero_le _, by simp⟩
        case round =>
          obtain ⟨pos, rfl, hpl, ha⟩ := hrel
          have HA := Lib.hid ha
          clear ha
          have hbi : ∀ p, Below w.heap.size w (w.iter s p) := fun p => (Below.refl _ w).alloc (Nat.le_refl _) _
          have HBI := Lib.hid hbi
          clear hbi
          by_cases hlt : pos < s.size
          · by_cases hasc : (s[pos]'hlt).toNat < 128
            · have hnx : ∀ ty, (Instr.next (.pointer (some ⟨w.heap.size, 0, none⟩)) true ty).run Tryd.prog (w.iter s pos) = _ := fun ty => run_next_ascii w s pos ty hlt hasc
              cases hok : okR ((s[pos]'hlt).toNat : Int)
              · have kR := Lib.hid (fun w => partRune_any ((s[pos]'hlt).toNat : Int) w)
                rw [hok] at kR
                have HAL := Lib.hid (all_not hlt hok)
                clear hok
                go_wp2_with fail
                refine (kR.out _).mono ?_
                rintro e w2 ⟨rfl, rfl⟩
                go_wp2
                go_ret
                exact ⟨by rw [HAL.out]; rfl, HBI.out _⟩
              · have kR := Lib.hid (fun w => partRune_any ((s[pos]'hlt).toNat : Int) w)
                rw [hok] at kR
                have HN := Lib.hid (all_take_succ hlt HA.out hok)
                clear hok
                go_wp2_with fail
                refine (kR.out _).mono ?_
                rintro e w2 ⟨rfl, rfl⟩
                go_wp2
                go_roundw
                case rel => exact ⟨pos + 1, rfl, hlt, HN.out⟩
                case measure => simp; omega
            · have hnx : ∀ ty, (Instr.next (.pointer (some ⟨w.heap.size, 0, none⟩)) true ty).run Tryd.prog (w.iter s pos) = _ := fun ty => run_next_any w s pos ty hlt
              have hhi := (decode_high s pos hlt (by omega)).1
              have hokr : okR ((Utf8.decode s pos).1 : Int) = false := okR_high (by omega)
              have hal := all_not hlt (okR_high (r := ((s[pos]'hlt).toNat : Int)) (by omega))
              have kR := Lib.hid (fun w => partRune_any ((Utf8.decode s pos).1 : Int) w)
              rw [hokr] at kR
              have HAL := Lib.hid hal
              clear hokr hal hhi
              go_wp2_with fail
              refine (kR.out _).mono ?_
              rintro e w2 ⟨rfl, rfl⟩
              go_wp2
              go_ret
              exact ⟨by rw [HAL.out]; rfl, HBI.out _⟩
          · have hnx : ∀ ty, (Instr.next (.pointer (some ⟨w.heap.size, 0, none⟩)) true ty).run Tryd.prog (w.iter s pos) = _ := fun ty => run_next_end w s pos ty hlt
            obtain rfl : pos = s.size := by omega
            have hal : s.data.toList.all (fun c => okR c.toNat) = true := by
              have := HA.out
              rwa [List.take_of_length_le (by simp)] at this
            have HAL := Lib.hid hal
            clear hal
            go_wp2
            go_ret
            exact ⟨by rw [HAL.out]; rfl, HBI.out _⟩
      · have hp : partOk s = false := by unfold partOk; rw [h2]; simp
        rw [hp]
        go_enter Tryd.func59, Tryd.ntmps59
        go_wp2
        go_ret
        exact ⟨rfl, Below.refl _ _⟩
    · have hp : partOk s = false := by unfold partOk; rw [h1]; simp
      rw [hp]
      go_enter Tryd.func59, Tryd.ntmps59
      go_wp2
      go_ret
      exact ⟨rfl, Below.refl _ _⟩
  · have hp : partOk s = false := by unfold partOk; rw [h0]; simp
    rw [hp]
    go_enter Tryd.func59, Tryd.ntmps59
    go_wp2
    go_ret
    exact ⟨rfl, Below.refl _ _⟩

end Go.Proofs.YtfkbjniodomdjaaDoor
