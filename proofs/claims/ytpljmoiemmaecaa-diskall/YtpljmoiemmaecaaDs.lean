/- Contracts of the disk's smaller methods. -/
import Derived.Test.YtpljmoiemmaecaaDu
import Derived.Test.YtpljmoiemmaecaaDn
namespace Go.Proofs.Ytpljmoiemmaecaa
open Go.RowKit

/-- the cells of a disk -/
def dc (mn : Option Nat) (un : Int) (ms : Option Nat) (us : Int) (pv : Value) (room fuse steps : Int) (off : Bool) : Array Value :=
  #[.map mn, .int .i64 un, .map ms, .int .i64 us, pv, .int .i64 room, .int .i64 fuse, .int .i64 steps, .bool off]
section
variable {mn ms : Option Nat} {un us room fuse steps : Int} {pv : Value} {off : Bool}
theorem dc0 : (dc mn un ms us pv room fuse steps off)[0]? = some (.map mn) := rfl
theorem dc1 : (dc mn un ms us pv room fuse steps off)[1]? = some (.int .i64 un) := rfl
theorem dc2 : (dc mn un ms us pv room fuse steps off)[2]? = some (.map ms) := rfl
theorem dc3 : (dc mn un ms us pv room fuse steps off)[3]? = some (.int .i64 us) := rfl
theorem dc4 : (dc mn un ms us pv room fuse steps off)[4]? = some pv := rfl
theorem dc5 : (dc mn un ms us pv room fuse steps off)[5]? = some (.int .i64 room) := rfl
theorem dc6 : (dc mn un ms us pv room fuse steps off)[6]? = some (.int .i64 fuse) := rfl
theorem dc7 : (dc mn un ms us pv room fuse steps off)[7]? = some (.int .i64 steps) := rfl
theorem dc8 : (dc mn un ms us pv room fuse steps off)[8]? = some (.bool off) := rfl
end

theorem New_any (room : Int) (w : World) : Calls Try.prog 10 #[.int .i64 room] w fun e w' => e = .returned (.pointer (some ⟨w.heap.size, 0, none⟩)) ∧ Cel w' w.heap.size 61 (dc none 0 none 0 nilS (min (max room 0) 16777216) 0 0 false) ∧ Fr (fun _ => False) w w' := by
  go_enter Try.func10, Try.ntmps10
  go_wp2
  go_ret
  exact ⟨rfl, heap_alloc_new w _, Fr.alloc w _ _⟩

section
variable (mn ms : Option Nat) (un us room fuse steps : Int) (pv : Value) (off : Bool) (w : World) (d : Nat)
theorem Used_any (h : Cel w d 61 (dc mn un ms us pv room fuse steps off)) : Calls Try.prog 25 #[.pointer (some ⟨d, 0, none⟩)] w fun e w' => e = .returned (.int .i64 un) ∧ w = w' := by
  have h1 := (h.cell 1).trans dc1
  go_enter Try.func25, Try.ntmps25
  go_wp2
  go_ret
  exact ⟨rfl, rfl⟩
theorem Down_any (h : Cel w d 61 (dc mn un ms us pv room fuse steps off)) : Calls Try.prog 23 #[.pointer (some ⟨d, 0, none⟩)] w fun e w' => e = .returned (.bool off) ∧ w = w' := by
  have h1 := (h.cell 8).trans dc8
  go_enter Try.func23, Try.ntmps23
  go_wp2
  go_ret
  exact ⟨rfl, rfl⟩
theorem Steps_any (h : Cel w d 61 (dc mn un ms us pv room fuse steps off)) : Calls Try.prog 24 #[.pointer (some ⟨d, 0, none⟩)] w fun e w' => e = .returned (.int .i64 steps) ∧ w = w' := by
  have h1 := (h.cell 7).trans dc7
  go_enter Try.func24, Try.ntmps24
  go_wp2
  go_ret
  exact ⟨rfl, rfl⟩
theorem step_burn (h : Cel w d 61 (dc mn un ms us pv room 1 steps off)) : Calls Try.prog 35 #[.pointer (some ⟨d, 0, none⟩)] w fun e w' => e = .returned (.int .i64 10) ∧ Cel w' d 61 (dc mn un ms us pv room 0 steps true) ∧ Fr (fun k => k = d) w w' := by
  have h6 := (h.cell 6).trans dc6
  have h8 := (h.cell 8).trans dc8
  have f6 := h.fz 6
  have f8 := h.fz 8
  go_enter Try.func35, Try.ntmps35
  go_wp2
  go_ret
  exact ⟨rfl, (h.set 6 _).set 8 _, (Fr.set w d 6 _).trans (Fr.set _ d 8 _)⟩
theorem step_ok (h : Cel w d 61 (dc mn un ms us pv room fuse steps off)) (h1 : fuse ≠ 1) (h2 : 0 ≤ fuse ∧ fuse ≤ 9223372036854775807) (h3 : 0 ≤ steps ∧ steps ≤ 1000000000) : Calls Try.prog 35 #[.pointer (some ⟨d, 0, none⟩)] w fun e w' => e = .returned (.int .i64 0) ∧ Cel w' d 61 (dc mn un ms us pv room (max (fuse - 1) 0) (steps + 1) off) ∧ Fr (fun k => k = d) w w' := by
  have h6 := (h.cell 6).trans dc6
  have h7 := (h.cell 7).trans dc7
  have f6 := h.fz 6
  have f7 := h.fz 7
  have t1 : (fuse == 1) = false := by simpa using h1
  clear h1
  go_enter Try.func35, Try.ntmps35
  go_wp2
  go_ret
  exact ⟨rfl, (h.set 6 _).set 7 _, (Fr.set w d 6 _).trans (Fr.set _ d 7 _)⟩
end

/-- a clone of bytes lies in a row of its own -/
theorem Clone_any (l : List Int) (A : Option Addr) (cap : Nat) (w : World) (hr : Rd w .u8 A l) (hA : A = none → cap = 0) (hl : l.length ≤ 100000000) :
    Calls Try.prog 34 #[.slice A l.length cap] w fun e w' => ∃ v, e = .returned v ∧ RdB w' v l ∧ (∀ g, v.ownBlock = some g → w.heap.size ≤ g) ∧ Fr (fun _ => False) w w' := by
  cases A with
  | none =>
    have hm : l = [] := by
      rcases hr with h | ⟨b, off, h, _⟩
      · exact h
      · cases h
    subst hm
    obtain rfl : cap = 0 := hA rfl
    have q : ∀ W, Sem.run Try.prog (binOp .eql 28 (.slice none 0 0) (.slice none 0 0)) W = .ok (.bool true) W := fun W => by kernel_rfl
    go_enter Try.func34, Try.ntmps34
    go_wp2
    go_ret
    exact ⟨_, rfl, RdB.nil, (fun g e => by cases e), Fr.refl _ _⟩
  | some ad =>
    obtain ⟨i0, hi, hz0, hz1, hz2⟩ := info_parts infoU8
    have hnews := (hr.below ((Below.refl _ _).alloc (Nat.le_refl _) (.cells #[] 5))).add
    have HN := Lib.hid hnews
    have hown := World.ownsRow_lit (base := w.heap.size) (e := 5) (size := 1) w #[] 0 (Nat.le_refl _) (by decide) rfl
    have HO := Lib.hid hown
    clear hnews hr hown
    have q : ∀ W, Sem.run Try.prog (binOp .eql 28 (.slice (some ad) l.length cap) (.slice none 0 0)) W = .ok (.bool false) W := fun W => by kernel_rfl
    go_enter Try.func34, Try.ntmps34
    go_wp2_with (at_builtin; refine wpList_append_own _ rfl _ _ 28 rfl w.heap.size 5 i0 (.int .u8 0) 1 1 Try.underlying28 hi hz0 hz1 hz2 rfl (by decide) _ _ _ rfl HO.out ad l.length cap (l.map (Value.int .u8)) rfl (by simp) HN.out (ints_one l) (by unfold maxLen; omega) (by omega) (by simp) ?_; intro v' w1 hown' hgrow _; simp only [Nat.zero_add, List.nil_append] at hown')
    go_ret
    exact ⟨_, rfl, RdB.own hown', (fun g e => (hown'.lt g e).1), (Fr.alloc w _ _).then (Fr.grown hgrow) (fun i h => .inr (by cases h; exact Nat.le_refl _))⟩

end Go.Proofs.Ytpljmoiemmaecaa
