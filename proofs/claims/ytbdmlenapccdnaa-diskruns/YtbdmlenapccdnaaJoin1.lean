/- Contracts of disk.Named and of the law's own. Contracts of the disk's smaller methods. Contracts of ready, Free, Fuse, and of a volume's apply. The slices that a disk holds: none writes into another one's bytes. The contract of change, whatever apply does. A range over a map of slices; the contract of a volume's twin. -/
import Derived.Test.YtbdmlenapccdnaaJoin0
import Derived.Deep.AppendLies
import Derived.Maps.RangeWalk
import Derived.Laws.IdiomRangeMap
namespace Go.Proofs.Ytbdmlenapccdnaa
open Go.RowKit
namespace Dx
def nb (c : Int) : Bool := (decide (97 ≤ c) && decide (c ≤ 122)) || (decide (48 ≤ c) && decide (c ≤ 57)) || c == 46 || c == 45
def name (s : ByteArray) : Bool := decide (1 ≤ s.size ∧ s.size ≤ 80) && (bs s).all nb
theorem name_long {s : ByteArray} (h : ¬ (1 ≤ s.size ∧ s.size ≤ 80)) : name s = false := by unfold name; simp [h]
theorem name_all {s : ByteArray} (h : 1 ≤ s.size ∧ s.size ≤ 80) (ha : ∀ j, j < s.size → nb ((bs s)[j]?.getD 0) = true) : name s = true := by
  unfold name
  rw [decide_eq_true h, Bool.true_and, List.all_eq_true]
  intro x hx
  obtain ⟨i, hi⟩ := List.getElem?_of_mem hx
  have hil : i < s.size := by have := (List.getElem?_eq_some_iff.1 hi).1; rwa [bs_len] at this
  have := ha i hil
  rw [hi] at this
  exact this
theorem name_bad {s : ByteArray} {j : Nat} (hj : j < s.size) (h : nb ((bs s)[j]?.getD 0) = false) : name s = false := by
  unfold name
  rw [Bool.and_eq_false_iff]
  right
  rw [List.all_eq_false]
  refine ⟨(bs s)[j]?.getD 0, ?_, by simp [h]⟩
  rw [bs_get s j hj]
  exact List.mem_of_getElem? (bs_get s j hj)
end Dx

theorem nameByte_any (c : Int) (w : World) : Calls Try.prog 64 #[.int .u8 c] w fun e w' => e = .returned (.bool (Dx.nb c)) ∧ w = w' := by
  go_enter Try.func64, Try.ntmps64
  go_wp2
  all_goals
    go_ret
    refine ⟨?_, rfl⟩
    first
      | (simp [Dx.nb, *]; done)
      | (simp [Dx.nb, *]; rw [Bool.eq_iff_iff]; simp; omega)

theorem empty_of {s : ByteArray} (h : s.size = 0) : s.toList.isEmpty = true := by
  rw [ByteArray.toList_eq, List.isEmpty_iff, ← List.length_eq_zero_iff, Array.length_toList]
  exact h
theorem nonempty_of {s : ByteArray} (h : s.size ≠ 0) : s.toList.isEmpty = false := by
  rw [← Bool.not_eq_true, ByteArray.toList_eq, List.isEmpty_iff, ← List.length_eq_zero_iff, Array.length_toList]
  exact h

set_option maxHeartbeats 400000 in
theorem Named_any (s : ByteArray) (w : World) (hs : s.size ≤ maxLen) : Calls Try.prog 53 #[.string s] w fun e w' => e = .returned (.bool (Dx.name s)) ∧ w = w' := by
  unfold maxLen at hs
  by_cases h0 : s.size = 0
  · have e1 := empty_of h0
    rw [Dx.name_long (by omega)]
    go_enter Try.func53, Try.ntmps53
    go_wp2
    go_ret
    exact ⟨rfl, rfl⟩
  · have e1 := nonempty_of h0
    by_cases h80 : 80 < s.size
    · rw [Dx.name_long (by omega)]
      go_enter Try.func53, Try.ntmps53
      go_wp2
      go_ret
      exact ⟨rfl, rfl⟩
    · have td : decide ((80 : Int) < (s.size : Int)) = false := by simp; omega
      go_enter Try.func53, Try.ntmps53
      go_wp2
      go_loop [13] (fun i => ∃ k : Nat, k ≤ s.size ∧ i = .int .i64 k ∧ ∀ j, j < k → Dx.nb ((bs s)[j]?.getD 0) = true) (fun i => s.size - (intOf i).toNat)
      case atStart => exact ⟨0, by omega, rfl, fun j hj => absurd hj (by omega)⟩
      case round =>
        obtain ⟨k, hk, rfl, hall⟩ := hrel
        have HA := Lib.hid hall
        clear hall
        by_cases hlt : k < s.size
        · have hg : (bs s)[k]?.getD 0 = ((s[k]'hlt).toNat : Int) := by rw [bs_get s k hlt]; rfl
          have HG := Lib.hid hg
          clear hg
          cases hb : Dx.nb ((s[k]'hlt).toNat : Int) with
          | true =>
            go_wp2_with (go_at_call 64; refine (nameByte_any _ _).mono ?_; rintro e w' ⟨rfl, rfl⟩)
            go_round
            case rel =>
              refine ⟨k + 1, by omega, by go_num, fun j hj => ?_⟩
              rcases Nat.lt_or_ge j k with h1 | h1
              · exact HA.out j h1
              · obtain rfl : j = k := by omega
                rw [HG.out]; exact hb
            case measure => simp [intOf]; omega
          | false =>
            go_wp2_with (go_at_call 64; refine (nameByte_any _ _).mono ?_; rintro e w' ⟨rfl, rfl⟩)
            go_ret
            refine ⟨?_, rfl⟩
            rw [Dx.name_bad hlt (by rw [HG.out]; exact hb)]
            rfl
        · obtain rfl : k = s.size := by omega
          go_wp2
          go_ret
          refine ⟨?_, rfl⟩
          rw [Dx.name_all (by omega) HA.out]
          rfl

set_option maxHeartbeats 400000 in
theorem lnamed_any (s : ByteArray) (w : World) (hs : s.size ≤ maxLen) : Calls Try.prog 10 #[.string s] w fun e w' => e = .returned (.bool (Dx.name s)) ∧ w = w' := by
  unfold maxLen at hs
  by_cases h0 : s.size < 1
  · rw [Dx.name_long (by omega)]
    go_enter Try.func10, Try.ntmps10
    go_wp2
    go_ret
    exact ⟨rfl, rfl⟩
  · by_cases h80 : 80 < s.size
    · rw [Dx.name_long (by omega)]
      go_enter Try.func10, Try.ntmps10
      go_wp2
      go_ret
      exact ⟨rfl, rfl⟩
    · have td : decide ((80 : Int) < (s.size : Int)) = false := by simp; omega
      have td2 : decide ((s.size : Int) < 1) = false := by simp; omega
      go_enter Try.func10, Try.ntmps10
      go_wp2
      go_loop [3] (fun i => ∃ k : Nat, k ≤ s.size ∧ i = .int .i64 k ∧ ∀ j, j < k → Dx.nb ((bs s)[j]?.getD 0) = true) (fun i => s.size - (intOf i).toNat)
      case atStart => exact ⟨0, by omega, rfl, fun j hj => absurd hj (by omega)⟩
      case round =>
        obtain ⟨k, hk, rfl, hall⟩ := hrel
        have HA := Lib.hid hall
        clear hall
        by_cases hlt : k < s.size
        · have hg : (bs s)[k]?.getD 0 = ((s[k]'hlt).toNat : Int) := by rw [bs_get s k hlt]; rfl
          have HG := Lib.hid hg
          clear hg
          go_wp2
          all_goals
            first
            | (go_ret
               refine ⟨?_, rfl⟩
               rw [Dx.name_bad hlt (by rw [HG.out, ← Bool.not_eq_true]; clear HA HG hs td td2; simp only [Dx.nb, Bool.or_eq_true, Bool.and_eq_true, decide_eq_true_eq, beq_iff_eq]; first | omega | (simp at *; omega))]
               rfl)
            | (refine ⟨⟨k + 1, by omega, by go_num, fun j hj => ?_⟩, by simp [intOf]; omega⟩
               rcases Nat.lt_or_ge j k with h1 | h1
               · exact HA.out j h1
               · obtain rfl : j = k := by omega
                 rw [HG.out]; clear HA HG hs td td2; simp only [Dx.nb, Bool.or_eq_true, Bool.and_eq_true, decide_eq_true_eq, beq_iff_eq]; first | omega | (simp at *; omega))
        · obtain rfl : k = s.size := by omega
          go_wp2
          go_ret
          refine ⟨?_, rfl⟩
          rw [Dx.name_all (by omega) HA.out]
          rfl

end Go.Proofs.Ytbdmlenapccdnaa
namespace Go.Proofs.Ytbdmlenapccdnaa
open Go.RowKit

/-- the cells of a disk -/
def dc (mn : Option Nat) (un : Int) (ms : Option Nat) (us : Int) (pv : Value) (room fuse steps : Int) (off : Bool) : Array Value :=
  #[.map mn, .int .i64 un, .map ms, .int .i64 us, pv, .int .i64 room, .int .i64 fuse, .int .i64 steps, .bool off]
section
variable {mn ms : Option Nat} {un us room fuse steps : Int} {pv : Value} {off : Bool}
theorem dc0 : (dc mn un ms us pv room fuse steps off)[0]? = some (.map mn) := rfl
theorem dc1 : (dc mn un ms us pv room fuse steps off)[1]? = some (.int .i64 un) := rfl
theorem dc2 : (dc mn un ms us pv room fuse steps off)[2]? = some (.map ms) := rfl
theorem dc3 : (dc mn un ms us pv room fuse steps off)[3]? = some (.int .i64 us) := rfl
theorem dc4 : (dc mn un ms us pv room fuse steps off)[4]? = some pv := rfl
theorem dc5 : (dc mn un ms us pv room fuse steps off)[5]? = some (.int .i64 room) := rfl
theorem dc6 : (dc mn un ms us pv room fuse steps off)[6]? = some (.int .i64 fuse) := rfl
theorem dc7 : (dc mn un ms us pv room fuse steps off)[7]? = some (.int .i64 steps) := rfl
theorem dc8 : (dc mn un ms us pv room fuse steps off)[8]? = some (.bool off) := rfl
end

theorem New_any (room : Int) (w : World) : Calls Try.prog 8 #[.int .i64 room] w fun e w' => e = .returned (.pointer (some ⟨w.heap.size, 0, none⟩)) ∧ Cel w' w.heap.size 75 (dc none 0 none 0 nilS (min (max room 0) 16777216) 0 0 false) ∧ Fr (fun _ => False) w w' := by
  go_enter Try.func8, Try.ntmps8
  go_wp2
  go_ret
  exact ⟨rfl, heap_alloc_new w _, Fr.alloc w _ _⟩

section
variable (mn ms : Option Nat) (un us room fuse steps : Int) (pv : Value) (off : Bool) (w : World) (d : Nat)
theorem Used_any (h : Cel w d 75 (dc mn un ms us pv room fuse steps off)) : Calls Try.prog 23 #[.pointer (some ⟨d, 0, none⟩)] w fun e w' => e = .returned (.int .i64 un) ∧ w = w' := by
  have h1 := (h.cell 1).trans dc1
  go_enter Try.func23, Try.ntmps23
  go_wp2
  go_ret
  exact ⟨rfl, rfl⟩
theorem Down_any (h : Cel w d 75 (dc mn un ms us pv room fuse steps off)) : Calls Try.prog 21 #[.pointer (some ⟨d, 0, none⟩)] w fun e w' => e = .returned (.bool off) ∧ w = w' := by
  have h1 := (h.cell 8).trans dc8
  go_enter Try.func21, Try.ntmps21
  go_wp2
  go_ret
  exact ⟨rfl, rfl⟩
theorem Steps_any (h : Cel w d 75 (dc mn un ms us pv room fuse steps off)) : Calls Try.prog 22 #[.pointer (some ⟨d, 0, none⟩)] w fun e w' => e = .returned (.int .i64 steps) ∧ w = w' := by
  have h1 := (h.cell 7).trans dc7
  go_enter Try.func22, Try.ntmps22
  go_wp2
  go_ret
  exact ⟨rfl, rfl⟩
theorem step_burn (h : Cel w d 75 (dc mn un ms us pv room 1 steps off)) : Calls Try.prog 41 #[.pointer (some ⟨d, 0, none⟩)] w fun e w' => e = .returned (.int .i64 10) ∧ Cel w' d 75 (dc mn un ms us pv room 0 steps true) ∧ Fr (fun k => k = d) w w' := by
  have h6 := (h.cell 6).trans dc6
  have h8 := (h.cell 8).trans dc8
  have f6 := h.fz 6
  have f8 := h.fz 8
  go_enter Try.func41, Try.ntmps41
  go_wp2
  go_ret
  exact ⟨rfl, (h.set 6 _).set 8 _, (Fr.set w d 6 _).trans (Fr.set _ d 8 _)⟩
theorem step_ok (h : Cel w d 75 (dc mn un ms us pv room fuse steps off)) (h1 : fuse ≠ 1) (h2 : 0 ≤ fuse ∧ fuse ≤ 9223372036854775807) (h3 : 0 ≤ steps ∧ steps ≤ 1000000000) : Calls Try.prog 41 #[.pointer (some ⟨d, 0, none⟩)] w fun e w' => e = .returned (.int .i64 0) ∧ Cel w' d 75 (dc mn un ms us pv room (max (fuse - 1) 0) (steps + 1) off) ∧ Fr (fun k => k = d) w w' := by
  have h6 := (h.cell 6).trans dc6
  have h7 := (h.cell 7).trans dc7
  have f6 := h.fz 6
  have f7 := h.fz 7
  have t1 : (fuse == 1) = false := by simpa using h1
  clear h1
  go_enter Try.func41, Try.ntmps41
  go_wp2
  go_ret
  exact ⟨rfl, (h.set 6 _).set 7 _, (Fr.set w d 6 _).trans (Fr.set _ d 7 _)⟩
end

/-- a clone of bytes lies in a row of its own -/
theorem Clone_any (l : List Int) (A : Option Addr) (cap : Nat) (w : World) (hr : Rd w .u8 A l) (hA : A = none → cap = 0) (hl : l.length ≤ 100000000) :
    Calls Try.prog 40 #[.slice A l.length cap] w fun e w' => ∃ v, e = .returned v ∧ RdB w' v l ∧ (∀ g, v.ownBlock = some g → w.heap.size ≤ g) ∧ Fr (fun _ => False) w w' := by
  cases A with
  | none =>
    have hm : l = [] := by
      rcases hr with h | ⟨b, off, h, _⟩
      · exact h
      · cases h
    subst hm
    obtain rfl : cap = 0 := hA rfl
    have q : ∀ W, Sem.run Try.prog (binOp .eql 28 (.slice none 0 0) (.slice none 0 0)) W = .ok (.bool true) W := fun W => by kernel_rfl
    go_enter Try.func40, Try.ntmps40
    go_wp2
    go_ret
    exact ⟨_, rfl, RdB.nil, (fun g e => by cases e), Fr.refl _ _⟩
  | some ad =>
    obtain ⟨i0, hi, hz0, hz1, hz2⟩ := info_parts infoU8
    have hnews := (hr.below ((Below.refl _ _).alloc (Nat.le_refl _) (.cells #[] 5))).add
    have HN := Lib.hid hnews
    have hown := World.ownsRow_lit (base := w.heap.size) (e := 5) (size := 1) w #[] 0 (Nat.le_refl _) (by decide) rfl
    have HO := Lib.hid hown
    clear hnews hr hown
    have q : ∀ W, Sem.run Try.prog (binOp .eql 28 (.slice (some ad) l.length cap) (.slice none 0 0)) W = .ok (.bool false) W := fun W => by kernel_rfl
    go_enter Try.func40, Try.ntmps40
    go_wp2_with (at_builtin; refine wpList_append_own _ rfl _ _ 28 rfl w.heap.size 5 i0 (.int .u8 0) 1 1 Try.underlying28 hi hz0 hz1 hz2 rfl (by decide) _ _ _ rfl HO.out ad l.length cap (l.map (Value.int .u8)) rfl (by simp) HN.out (ints_one l) (by unfold maxLen; omega) (by omega) (by simp) ?_; intro v' w1 hown' hgrow _; simp only [Nat.zero_add, List.nil_append] at hown')
    go_ret
    exact ⟨_, rfl, RdB.own hown', (fun g e => (hown'.lt g e).1), (Fr.alloc w _ _).then (Fr.grown hgrow) (fun i h => .inr (by cases h; exact Nat.le_refl _))⟩

end Go.Proofs.Ytbdmlenapccdnaa
namespace Go.Proofs.Ytbdmlenapccdnaa
open Go.RowKit

/-- a slice of names -/
def RdN (w : World) (A : Option Addr) (xs : List ByteArray) : Prop :=
  xs = [] ∨ ∃ b off, A = some ⟨b, off, none⟩ ∧ ∀ i s, xs[i]? = some s → w.cell? ⟨b, off + i, none⟩ = some (.string s)
theorem RdN.pos {w : World} {A : Option Addr} {xs : List ByteArray} (h : RdN w A xs) (hx : 0 < xs.length) : ∃ b off, A = some ⟨b, off, none⟩ ∧ ∀ i s, xs[i]? = some s → w.cell? ⟨b, off + i, none⟩ = some (.string s) := by
  rcases h with rfl | h
  · simp at hx
  · exact h
def readyR (off : Bool) (ns : List ByteArray) : Int := if ns.all Dx.name then (if off then 10 else 0) else 1

theorem ready_nil (A : Option Addr) (n cap : Nat) (w : World) : Calls Try.prog 37 #[.pointer none, .slice A n cap] w fun e w' => e = .returned (.int .i64 1) ∧ w = w' := by
  go_enter Try.func37, Try.ntmps37
  go_wp2
  go_ret
  exact ⟨rfl, rfl⟩
set_option maxHeartbeats 400000 in
theorem ready_any (mn ms : Option Nat) (un us room fuse steps : Int) (pv : Value) (off : Bool) (w : World) (d : Nat) (ns : List ByteArray) (A : Option Addr) (cap : Nat)
    (h : Cel w d 75 (dc mn un ms us pv room fuse steps off)) (hr : RdN w A ns) (hn : ns.length ≤ 10) (hz : ∀ s ∈ ns, s.size ≤ maxLen) :
    Calls Try.prog 37 #[.pointer (some ⟨d, 0, none⟩), .slice A ns.length cap] w fun e w' => e = .returned (.int .i64 (readyR off ns)) ∧ w = w' := by
  have h8 := (h.cell 8).trans dc8
  have HZ := Lib.hid hz
  clear hz
  go_enter Try.func37, Try.ntmps37
  go_wp2
  go_loop [11] (fun i => ∃ k : Nat, k ≤ ns.length ∧ i = .int .i64 k ∧ (ns.take k).all Dx.name = true) (fun i => ns.length - (intOf i).toNat)
  case atStart => exact ⟨0, by omega, rfl, rfl⟩
  case round =>
    obtain ⟨k, hk, rfl, hall⟩ := hrel
    have HA := Lib.hid hall
    clear hall
    by_cases hlt : k < ns.length
    · obtain ⟨b, o, rfl, hc⟩ := hr.pos (by omega)
      have hck := hc k _ (List.getElem?_eq_getElem hlt)
      have hsz := HZ.out _ (List.getElem_mem hlt)
      obtain ⟨s, hs⟩ : ∃ s, ns[k] = s := ⟨_, rfl⟩
      rw [hs] at hck hsz
      have HS := Lib.hid hs
      clear hc hr hs
      cases hb : Dx.name s with
      | true =>
        go_wp2_with (go_at_call 53; refine (Named_any _ _ hsz).mono ?_; rintro e w' ⟨rfl, rfl⟩)
        go_round
        case rel =>
          refine ⟨k + 1, by omega, by go_num, ?_⟩
          rw [List.take_succ_eq_append_getElem hlt, HS.out, List.all_append, HA.out]
          simp [hb]
        case measure => simp [intOf]; omega
      | false =>
        go_wp2_with (go_at_call 53; refine (Named_any _ _ hsz).mono ?_; rintro e w' ⟨rfl, rfl⟩)
        go_ret
        refine ⟨?_, rfl⟩
        have : ns.all Dx.name = false := by
          rw [List.all_eq_false]
          exact ⟨s, by rw [← HS.out]; exact List.getElem_mem hlt, by simp [hb]⟩
        unfold readyR
        rw [this]
        rfl
    · obtain rfl : k = ns.length := by omega
      rw [List.take_length] at HA
      cases off
      all_goals
        go_wp2
        go_ret
        refine ⟨?_, rfl⟩
        unfold readyR
        rw [HA.out]
        rfl

section
variable (mn ms : Option Nat) (un us room fuse steps : Int) (pv : Value) (off : Bool) (w : World) (d : Nat)
theorem Free_any (h : Cel w d 75 (dc mn un ms us pv room fuse steps off)) (h1 : 0 ≤ un ∧ un ≤ room) (h2 : room ≤ 1000000000) : Calls Try.prog 24 #[.pointer (some ⟨d, 0, none⟩)] w fun e w' => e = .returned (.int .i64 (room - un)) ∧ ∃ n, w' = w.drewN n := by
  have c1 := (h.cell 1).trans dc1
  have c5 := (h.cell 5).trans dc5
  go_enter Try.func24, Try.ntmps24
  go_wp2
  go_quiet (fail)
  go_wp2
  go_ret
  exact ⟨rfl, _, rfl⟩
end

theorem vwrite_any (w : World) (d o : Nat) (T : TypeId) (C : Array Value) (m : Option Nat) (n : Nat) (V : ByteArray → Option Value) (s : ByteArray) (l data : List Int) (used : Int) (B : Option Addr) (cb : Nat)
    (hC : Cel w d T C) (hT : T ≠ 5) (c0 : C[o]? = some (.map m)) (c1 : C[o + 1]? = some (.int .i64 used)) (hF : Files w m n V) (hs : s.size ≤ maxLen) (hn : n < 1000000) (hv : RdB w ((V s).getD nilS) l) (hd : RdB w (.slice B data.length cb) data)
    (hl : l.length + data.length ≤ 100000000) (hu : 0 ≤ used ∧ used ≤ 1000000000000) :
    Calls Try.prog 65 #[.pointer (some ⟨d, o, none⟩), .string s, .slice B data.length cb] w (Wrote w d o T C m n V s l data used) := by
  obtain ⟨B', cb', hBe, hB, _, hd0⟩ := hd.form
  obtain ⟨rfl, rfl⟩ : B = B' ∧ cb = cb' := by injection hBe with h1 _ h2; exact ⟨h1, h2⟩
  rcases hF with ⟨rfl, rfl⟩ | ⟨b, rfl, hM⟩
  · obtain rfl : l = [] := by
      rcases hv with ⟨_, h⟩ | ⟨g, cap, cur, h, _⟩
      · exact h
      · cases h
    exact vwrite_none w d o T C s data used B cb n hC hT c0 c1 hs hd (by simpa using hl) hu hn
  · exact vwrite_some w d o T C b n V s l data used B cb hC hT c0 c1 hM hs hn hv hd0 hB hl hu

theorem Wrote.lift {w w' : World} {ob : Obj} {d o : Nat} {T : TypeId} {C : Array Value} {m : Option Nat} {n : Nat} {V : ByteArray → Option Value} {s : ByteArray} {l data : List Int} {used : Int} {e : Ending}
    (h : Wrote (w.alloc ob) d o T C m n V s l data used e w') : Wrote w d o T C m n V s l data used e w' := by
  obtain ⟨h0, b, v', h1, h2, h3, h4, h5, h6, h7⟩ := h
  refine ⟨h0, b, v', h1, h2, ?_, h4, ?_, fun t lt h hle => h6 t lt (h.ofBlock (fun g e => Below.heap_alloc w ob g (h.lt e))) hle, (Fr.alloc w ob _).trans h7⟩
  · rcases h3 with h3 | ⟨h3, h8⟩
    · exact .inl h3
    · exact .inr ⟨h3, by simp at h8; omega⟩
  · exact h5.mono (by simp)

/-- a change as a value -/
def chg (k : Int) (s t : ByteArray) (v : Value) : Value := .agg #[.int .i64 k, .string s, .string t, v]

set_option maxHeartbeats 400000 in
theorem apply_write (w : World) (d o : Nat) (T : TypeId) (C : Array Value) (m : Option Nat) (n : Nat) (V : ByteArray → Option Value) (s t : ByteArray) (l data : List Int) (used : Int) (B : Option Addr) (cb : Nat)
    (hC : Cel w d T C) (hT : T ≠ 5) (c0 : C[o]? = some (.map m)) (c1 : C[o + 1]? = some (.int .i64 used)) (hF : Files w m n V) (hs : s.size ≤ maxLen) (hn : n < 1000000) (hv : RdB w ((V s).getD nilS) l) (hd : RdB w (.slice B data.length cb) data)
    (hl : l.length + data.length ≤ 100000000) (hu : 0 ≤ used ∧ used ≤ 1000000000000) :
    Calls Try.prog 54 #[.pointer (some ⟨d, o, none⟩), chg 0 s t (.slice B data.length cb)] w (Wrote w d o T C m n V s l data used) := by
  obtain ⟨w1, hw1⟩ : ∃ w1, w.alloc (.cells #[.int .i64 0, .string s, .string t, .slice B data.length cb] 82) = w1 := ⟨_, rfl⟩
  have hb1 : ∀ k, k < w.heap.size → w1.heap[k]? = w.heap[k]? := fun k hk => by rw [← hw1]; exact Below.heap_alloc w _ k hk
  have hup : ∀ t lt, RdB w t lt → RdB w1 t lt := fun t lt h => h.ofBlock (fun g e => hb1 g (h.lt e))
  have hc := vwrite_any w1 d o T C m n V s l data used B cb (hC.of (hb1 d hC.lt)) hT c0 c1 (hF.ofBlock (fun b hb => hb1 b (by
    rcases hF with ⟨h, _⟩ | ⟨b', h, hM⟩
    · rw [h] at hb; cases hb
    · rw [h] at hb; cases hb; exact hM.lt))) hs hn (hup _ _ hv) (hup _ _ hd) hl hu
  have hC1 : Cel w1 w.heap.size 82 #[.int .i64 0, .string s, .string t, .slice B data.length cb] := by rw [← hw1]; exact heap_alloc_new w _
  have k0 := hC1.cell 0
  have k1 := hC1.cell 1
  have k3 := hC1.cell 3
  simp at k0 k1 k3
  have HC := Lib.hid hc
  have HW := Lib.hid hw1
  clear hc hw1 c0 c1 hF hC hC1
  unfold chg
  go_enter Try.func54, Try.ntmps54
  go_wp2_with fail
  rw [HW.out]
  refine HC.out.mono ?_
  rintro e w2 h
  obtain ⟨rfl, h'⟩ := h
  have h2 : Wrote w1 d o T C m n V s l data used (.returned (.tuple #[])) w2 := ⟨rfl, h'⟩
  go_wp2
  go_end0
  rw [← HW.out] at h2
  exact h2.lift

set_option maxHeartbeats 400000 in
theorem apply_drop (w : World) (d o : Nat) (T : TypeId) (C : Array Value) (b n : Nat) (V : ByteArray → Option Value) (s t : ByteArray) (l : List Int) (used : Int) (dv : Value)
    (hC : Cel w d T C) (c0 : C[o]? = some (.map (some b))) (c1 : C[o + 1]? = some (.int .i64 used)) (hM : MapV w b n V) (hs : s.size ≤ maxLen) (hv : RdB w ((V s).getD nilS) l) (hl : l.length ≤ 100000000) (hu : 0 ≤ used ∧ used ≤ 1000000000000) (hdv : isS dv = true) :
    Calls Try.prog 54 #[.pointer (some ⟨d, o, none⟩), chg 2 s t dv] w fun e w' => e = .returned (.tuple #[]) ∧ Cel w' d T (C.setIfInBounds (o + 1) (.int .i64 (used - l.length))) ∧ MapV w' b n (fun x => if x = s then none else V x) ∧ Fr (fun k => k = d ∨ k = b) w w' := by
  obtain ⟨A, nn, cc, rfl⟩ : ∃ A nn cc, dv = .slice A nn cc := by
    unfold isS at hdv
    split at hdv
    · exact ⟨_, _, _, rfl⟩
    · exact ⟨_, _, _, rfl⟩
    · cases hdv
  obtain ⟨w1, hw1⟩ : ∃ w1, w.alloc (.cells #[.int .i64 2, .string s, .string t, .slice A nn cc] 82) = w1 := ⟨_, rfl⟩
  have hb1 : ∀ k, k < w.heap.size → w1.heap[k]? = w.heap[k]? := fun k hk => by rw [← hw1]; exact Below.heap_alloc w _ k hk
  have hc := vdrop_any w1 d o T C b n V s l used (hC.of (hb1 d hC.lt)) c0 c1 (hM.ofBlock (hb1 b hM.lt)) hs (hv.ofBlock (fun g e => hb1 g (hv.lt e))) hl hu
  have hC1 : Cel w1 w.heap.size 82 #[.int .i64 2, .string s, .string t, .slice A nn cc] := by rw [← hw1]; exact heap_alloc_new w _
  have k0 := hC1.cell 0
  have k1 := hC1.cell 1
  simp at k0 k1
  have HC := Lib.hid hc
  have HW := Lib.hid hw1
  clear hc hw1 c0 c1 hC hC1
  unfold chg
  go_enter Try.func54, Try.ntmps54
  go_wp2_with fail
  rw [HW.out]
  refine HC.out.mono ?_
  rintro e w2 ⟨rfl, h1, h2, h3⟩
  go_wp2
  go_end0
  rw [← HW.out] at h3
  exact ⟨rfl, h1, h2, (Fr.alloc w _ _).trans h3⟩

set_option maxHeartbeats 400000 in
theorem apply_move (w : World) (d o : Nat) (T : TypeId) (C : Array Value) (b n : Nat) (V : ByteArray → Option Value) (s t : ByteArray) (l : List Int) (used : Int) (dv : Value) (hst : s ≠ t) (v : Value) (hvs : (V s).getD nilS = v) (hiv : isS v = true)
    (hC : Cel w d T C) (c0 : C[o]? = some (.map (some b))) (c1 : C[o + 1]? = some (.int .i64 used)) (hM : MapV w b n V) (hs : s.size ≤ maxLen) (ht : t.size ≤ maxLen) (hv : RdB w ((V t).getD nilS) l) (hl : l.length ≤ 100000000) (hu : 0 ≤ used ∧ used ≤ 1000000000000) (hn : n < 1000000) (hdv : isS dv = true) :
    Calls Try.prog 54 #[.pointer (some ⟨d, o, none⟩), chg 1 s t dv] w fun e w' => e = .returned (.tuple #[]) ∧ Cel w' d T (C.setIfInBounds (o + 1) (.int .i64 (used - l.length))) ∧ MapV w' b (n + 1) (fun x => if x = s then none else if x = t then some v else V x) ∧ Fr (fun k => k = d ∨ k = b) w w' := by
  obtain ⟨A, nn, cc, rfl⟩ : ∃ A nn cc, dv = .slice A nn cc := by
    unfold isS at hdv
    split at hdv
    · exact ⟨_, _, _, rfl⟩
    · exact ⟨_, _, _, rfl⟩
    · cases hdv
  obtain ⟨w1, hw1⟩ : ∃ w1, w.alloc (.cells #[.int .i64 1, .string s, .string t, .slice A nn cc] 82) = w1 := ⟨_, rfl⟩
  have hb1 : ∀ k, k < w.heap.size → w1.heap[k]? = w.heap[k]? := fun k hk => by rw [← hw1]; exact Below.heap_alloc w _ k hk
  have hc := vmove_any w1 d o T C b n V s t l used hst v hvs hiv (hC.of (hb1 d hC.lt)) c0 c1 (hM.ofBlock (hb1 b hM.lt)) hs ht (hv.ofBlock (fun g e => hb1 g (hv.lt e))) hl hu hn
  have hC1 : Cel w1 w.heap.size 82 #[.int .i64 1, .string s, .string t, .slice A nn cc] := by rw [← hw1]; exact heap_alloc_new w _
  have k0 := hC1.cell 0
  have k1 := hC1.cell 1
  have k2 := hC1.cell 2
  simp at k0 k1 k2
  have HC := Lib.hid hc
  have HW := Lib.hid hw1
  clear hc hw1 c0 c1 hC hC1 hvs
  unfold chg
  go_enter Try.func54, Try.ntmps54
  go_wp2_with fail
  rw [HW.out]
  refine HC.out.mono ?_
  rintro e w2 ⟨rfl, h1, h2, h3⟩
  go_wp2
  go_end0
  rw [← HW.out] at h3
  exact ⟨rfl, h1, h2, (Fr.alloc w _ _).trans h3⟩

end Go.Proofs.Ytbdmlenapccdnaa
namespace Go.Proofs.Ytbdmlenapccdnaa
open Go.RowKit

inductive Slot where
  | now (x : ByteArray)
  | safe (x : ByteArray)
  | pend (i : Nat)
deriving DecidableEq

/-- the slices that may grow -/
def Slot.live : Slot → Bool
  | .pend _ => false
  | _ => true
abbrev Fam := Slot → Option (Value × List Int)
def upd (S : Fam) (p : Slot) (x : Option (Value × List Int)) : Fam := fun q => if q = p then x else S q
theorem upd_same (S : Fam) (p : Slot) (x : Option (Value × List Int)) : upd S p x p = x := by simp [upd]
theorem upd_other (S : Fam) {p q : Slot} (x : Option (Value × List Int)) (h : q ≠ p) : upd S p x q = S q := by simp [upd, h]

structure FamOk (w : World) (S : Fam) : Prop where
  rd : ∀ p v l, S p = some (v, l) → RdB w v l
  apart : ∀ p q v l v' l', p.live = true → p ≠ q → S p = some (v, l) → S q = some (v', l') → v.ownBlock ≠ none → v.ownBlock = v'.ownBlock → Spare v l → l'.length ≤ l.length ∧ (q.live = true → ¬ Spare v' l')

theorem FamOk.keep {w w' : World} {S : Fam} (h : FamOk w S) (hk : ∀ p v l, S p = some (v, l) → RdB w' v l) : FamOk w' S := ⟨hk, h.apart⟩
theorem FamOk.sub {w : World} {S S' : Fam} (h : FamOk w S) (f : Slot → Slot) (hf : ∀ p x, S' p = some x → S (f p) = some x) (inj : ∀ p q x y, S' p = some x → S' q = some y → p ≠ q → f p ≠ f q) (hl : ∀ p, (f p).live = p.live) : FamOk w S' :=
  ⟨fun p v l e => h.rd _ v l (hf p _ e), fun p q v l v' l' hpl hpq e e' hne hb hsp => by
    have := h.apart _ _ v l v' l' (by rw [hl]; exact hpl) (inj p q _ _ e e' hpq) (hf p _ e) (hf q _ e') hne hb hsp
    rw [hl] at this
    exact this⟩
theorem FamOk.drop {w : World} {S : Fam} (h : FamOk w S) (p : Slot) : FamOk w (upd S p none) :=
  h.sub id (fun q x e => by
    unfold upd at e
    split at e
    · cases e
    · exact e) (fun _ _ _ _ _ _ h => h) (fun _ => rfl)
theorem nil_spare : ¬ Spare nilS [] := by
  rintro ⟨A, cap, h, hc⟩
  unfold nilS at h
  injection h with _ _ h
  subst h
  simp at hc
theorem RdB.le {w : World} {v : Value} {l : List Int} (h : RdB w v l) : ∀ A n cap, v = .slice A n cap → n = l.length ∧ l.length ≤ cap ∧ (A = none → cap = 0) := by
  obtain ⟨A, cap, rfl, h1, h2, _⟩ := h.form
  rintro A' n' cap' e
  injection e with e1 e2 e3
  subst e1
  subst e2
  subst e3
  exact ⟨rfl, h2, h1⟩
theorem RdB.spare_own {w : World} {v : Value} {l : List Int} (h : RdB w v l) (hs : Spare v l) : v.ownBlock ≠ none := by
  obtain ⟨A, cap, rfl, hc⟩ := hs
  obtain ⟨_, _, h3⟩ := h.le _ _ _ rfl
  cases A with
  | none => have := h3 rfl; omega
  | some a => simp [Value.ownBlock]

theorem FamOk.add {w : World} {S : Fam} (h : FamOk w S) (p : Slot) {v : Value} {l : List Int} (hv : RdB w v l) (hfr : ∀ g, v.ownBlock = some g → ∀ q v' l', q ≠ p → S q = some (v', l') → v'.ownBlock ≠ some g) : FamOk w (upd S p (some (v, l))) := by
  constructor
  · intro q u k e
    by_cases hq : q = p
    · subst hq
      rw [upd_same] at e
      cases e
      exact hv
    · rw [upd_other _ _ hq] at e
      exact h.rd q u k e
  · intro q r u k u' k' hql hqr e e' hne hb hsp
    by_cases hq : q = p
    · subst hq
      rw [upd_same] at e
      cases e
      rw [upd_other _ _ (fun e => hqr e.symm)] at e'
      cases hg : v.ownBlock with
      | none => exact absurd hg hne
      | some g => exact absurd (hb.symm.trans hg) (hfr g hg r _ _ (fun e => hqr e.symm) e')
    · rw [upd_other _ _ hq] at e
      by_cases hr : r = p
      · subst hr
        rw [upd_same] at e'
        cases e'
        cases hg : v.ownBlock with
        | none => rw [hg] at hb; exact absurd hb hne
        | some g => exact absurd (hb.trans hg) (hfr g hg q _ _ hq e)
      · rw [upd_other _ _ hr] at e'
        exact h.apart q r _ _ _ _ hql hqr e e' hne hb hsp

theorem FamOk.append {w w' : World} {S : Fam} (h : FamOk w S) (p : Slot) {v v' : Value} {l m : List Int} (hp : (S p).getD (nilS, []) = (v, l)) (hat : AppAt w.heap.size v l m v') (hrd : RdB w' v' (l ++ m))
    (hst : ∀ t lt, RdB w t lt → (t.ownBlock = v.ownBlock → Spare v l → lt.length ≤ l.length) → RdB w' t lt) (hlp : p.live = true := by rfl) : FamOk w' (upd S p (some (v', l ++ m))) := by
  have hpc : S p = some (v, l) ∨ v = nilS ∧ l = [] := by
    cases hs : S p with
    | none => rw [hs] at hp; cases hp; exact .inr ⟨rfl, rfl⟩
    | some x => rw [hs] at hp; cases hp; exact .inl rfl
  have hv : RdB w v l := by
    rcases hpc with e | ⟨rfl, rfl⟩
    · exact h.rd p v l e
    · exact RdB.nil
  have old : ∀ q u k g, S q = some (u, k) → u.ownBlock = some g → w.heap.size ≤ g → False := by
    intro q u k g e e' hg
    have := (h.rd q u k e).lt e'
    omega
  have hqs : ∀ q u k, q ≠ p → S q = some (u, k) → u.ownBlock = v.ownBlock → Spare v l → k.length ≤ l.length ∧ (q.live = true → ¬ Spare u k) := by
    intro q u k hq e hb hsp
    rcases hpc with e' | ⟨rfl, rfl⟩
    · exact h.apart p q v l u k hlp (fun e => hq e.symm) e' e (hv.spare_own hsp) hb.symm hsp
    · exact absurd hsp nil_spare
  constructor
  · intro q u k e
    by_cases hq : q = p
    · subst hq
      rw [upd_same] at e
      cases e
      exact hrd
    · rw [upd_other _ _ hq] at e
      exact hst u k (h.rd q u k e) (fun hb hsp => (hqs q u k hq e hb hsp).1)
  · intro q r u k u' k' hql hqr e e' hne hb hsp
    by_cases hq : q = p
    · subst hq
      rw [upd_same] at e
      cases e
      rw [upd_other _ _ (fun e => hqr e.symm)] at e'
      rcases hat with ⟨A, cap, rfl, rfl, hc⟩ | ⟨g, hg, hge⟩
      · have hb' : u'.ownBlock = (Value.slice A l.length cap).ownBlock := by rw [← hb]; cases A <;> rfl
        have hsp' : Spare (.slice A l.length cap) l := by
          obtain ⟨A', cap', h1, h2⟩ := hsp
          injection h1 with _ _ h1
          subst h1
          exact ⟨A, cap, rfl, by rw [List.length_append] at h2; omega⟩
        have := hqs r u' k' (fun e => hqr e.symm) e' hb' hsp'
        exact ⟨by rw [List.length_append]; omega, this.2⟩
      · exact (old r u' k' g e' (hb.symm.trans hg) hge).elim
    · rw [upd_other _ _ hq] at e
      by_cases hr : r = p
      · subst hr
        rw [upd_same] at e'
        cases e'
        rcases hat with ⟨A, cap, rfl, rfl, hc⟩ | ⟨g, hg, hge⟩
        · have hb' : u.ownBlock = (Value.slice A l.length cap).ownBlock := by rw [hb]; cases A <;> rfl
          have hA : S r = some (.slice A l.length cap, l) := by
            rcases hpc with e' | ⟨e', _⟩
            · exact e'
            · injection e' with e1
              subst e1
              exact absurd hb' hne
          have h1 := h.apart q r u k _ l hql hqr e hA hne hb' hsp
          have hm : m = [] := by
            rcases hc with hc | hc
            · exact absurd ⟨A, cap, rfl, hc⟩ (h1.2 hlp)
            · exact hc
          subst hm
          simpa using h1
        · exact (old q u k g e (hb.trans hg) hge).elim
      · rw [upd_other _ _ hr] at e'
        exact h.apart q r _ _ _ _ hql hqr e e' hne hb hsp

end Go.Proofs.Ytbdmlenapccdnaa
namespace Go.Proofs.Ytbdmlenapccdnaa
open Go.RowKit

theorem infoChg : (Try.prog.info? 82).map (fun i => (i.zero, i.size, i.bytes)) = some (some (.agg #[.int .i64 0, .string ⟨#[]⟩, .string ⟨#[]⟩, .slice none 0 0]), 4, 64) := by kernel_rfl

theorem row_ne {w : World} {B n d : Nat} {v : Value} {xs : List Value} {T : TypeId} {C : Array Value} (h : w.ownsRow B 82 4 v n xs) (hC : Cel w d T C) (hT : T ≠ 82) : v.ownBlock ≠ some d := by
  rcases h.2 with ⟨rfl, _⟩ | ⟨g, cap, cur, rfl, _, hh, _⟩
  · simp [Value.ownBlock]
  · intro e
    obtain rfl : g = d := by injection e
    have h' : w.heap[g]? = _ := hC
    rw [h'] at hh
    injection hh with hh
    injection hh with _ hh
    exact hT hh
theorem grown_set' (w : World) (g i : Nat) (v : Value) : w.grownBy (w.setCell ⟨g, i, none⟩ v) (some g) :=
  ⟨rfl, rfl, rfl, by simp [World.setCell], fun k _ hk => Below.heap_setCell w ⟨g, i, none⟩ v k (fun e => hk (by rw [e]))⟩
theorem own_fr {w w' : World} {base sz n : Nat} {e : TypeId} {v : Value} {xs : List Value} {S : Nat → Prop} (h : w.ownsRow base e sz v n xs) (hf : Fr S w w') (hne : ∀ g, v.ownBlock = some g → ¬ S g) : w'.ownsRow base e sz v n xs := by
  refine ⟨h.1, ?_⟩
  rcases h.2 with hn | ⟨g, cap, cur, rfl, hb, hgg, rest⟩
  · exact .inl hn
  · exact .inr ⟨g, cap, cur, rfl, hb, (hf.block g (Array.getElem?_eq_some_iff.1 hgg).1 (hne g rfl)).trans hgg, rest⟩
def chgCells (k : Int) (s t : ByteArray) (v : Value) : List Value := [.int .i64 k, .string s, .string t, v]

theorem step_append_chg {w : World} {ops : Array Oper} {o : Oper} {a : Act} {K : Act → World → Prop} {Q : Exit → Act → World → Prop} {E : Prop} (hgd : o.guard = none) (s x : Operand) (ho : o.op = .call { callee := .builtin .append, args := #[s, x], argTypes := #[73, 73] })
    (B : Nat) (i0 : TypeInfo) (hi : Try.prog.info? 82 = some i0) (hz0 : i0.zero = some (.agg #[.int .i64 0, .string ⟨#[]⟩, .string ⟨#[]⟩, .slice none 0 0])) (hz1 : i0.size = 4) (hz2 : i0.bytes = 64)
    (v : Value) (n : Nat) (xs : List Value) (hs : a.eval s = v) (hown : w.ownsRow B 82 4 v n xs) (ad : Addr) (news : List Value) (hl : news.length = 4) (hx : a.eval x = .slice (some ad) 1 1) (hnews : ∀ j u, news[j]? = some u → w.cell? (ad.add j) = some u) (h1 : ∀ u ∈ news, u.oneCell' = true)
    (hn : n ≤ 1000000) (hB : B ≤ w.heap.size)
    (h : ∀ v' w', w'.ownsRow B 82 4 v' (n + 1) (xs ++ news) → w.grownBy w' v.ownBlock → (v'.ownBlock = v.ownBlock ∨ v'.ownBlock = some w.heap.size) → K (a.put o.dst v') w') : if Region.wanted o (yielded ops a.tmps) = true then Oper.wp Try.prog o a w K Q else E := by
  have hw : Region.wanted o (yielded ops a.tmps) = true := by simp [Region.wanted, hgd]
  rw [if_pos hw]
  obtain ⟨v', w', hrun, h2, h3, _, h5⟩ := run_append_own_at (P := Try.prog) w B 73 o.type 82 i0 _ 4 64 Try.underlying73 hi hz0 hz1 hz2 rfl (by decide) v n xs hown ad 1 1 news (by rw [hl]) hnews h1 (by unfold maxLen; omega) (by omega) hB
  unfold Oper.wp execOp
  simp only [ho, resolve, invoke, builtin, Sem.run_bind, Sem.run_pure, Result.andThen_ok, List.map_toArray, List.map_cons, List.map_nil, hs, hx, hrun]
  exact h v' w' h2 h3 h5

set_option maxRecDepth 100000 in
set_option maxHeartbeats 1000000 in
theorem change_gen (w : World) (d B : Nat) (k : Int) (s t : ByteArray) (A : Option Addr) (nn cc : Nat) (Q : World → Prop) (ms : Option Nat) (un us room fuse steps : Int) (pv : Value) (off : Bool) (n : Nat) (xs : List Value)
    (hap : ∀ w1, Fr (fun _ => False) w w1 → Calls Try.prog 54 #[.pointer (some ⟨d, 0, none⟩), chg k s t (.slice A nn cc)] w1 fun e w2 => e = .returned (.tuple #[]) ∧ Q w2 ∧ Fr (fun k => k < w.heap.size) w1 w2)
    (hQ : ∀ w2, Q w2 → ∃ mn, Cel w2 d 75 (dc mn un ms us pv room fuse steps off) ∧ w2.ownsRow B 82 4 pv n xs) (hn : n ≤ 1000000) (hB : B ≤ w.heap.size)
    (code fuse' steps' : Int) (off' : Bool)
    (hst : ∀ w3 pv' mn, Cel w3 d 75 (dc mn un ms us pv' room fuse steps off) → Calls Try.prog 41 #[.pointer (some ⟨d, 0, none⟩)] w3 fun e w4 => e = .returned (.int .i64 code) ∧ Cel w4 d 75 (dc mn un ms us pv' room fuse' steps' off') ∧ Fr (fun k => k = d) w3 w4) :
    Calls Try.prog 39 #[.pointer (some ⟨d, 0, none⟩), chg k s t (.slice A nn cc)] w fun e w' => e = .returned (.int .i64 code) ∧ ∃ w2 pv' mn, Q w2 ∧ Cel w2 d 75 (dc mn un ms us pv room fuse steps off) ∧ w2.ownsRow B 82 4 pv n xs ∧ Cel w' d 75 (dc mn un ms us pv' room fuse' steps' off') ∧ w'.ownsRow B 82 4 pv' (n + 1) (xs ++ chgCells k s t (.slice A nn cc)) ∧
      (pv'.ownBlock = pv.ownBlock ∨ ∃ g, pv'.ownBlock = some g ∧ w2.heap.size ≤ g) ∧ Fr (fun k => k = d ∨ pv.ownBlock = some k) w2 w' ∧ w.heap.size ≤ w2.heap.size := by
  obtain ⟨w1, hw1⟩ : ∃ w1, (w.alloc (.cells #[.int .i64 k, .string s, .string t, .slice A nn cc] 82)).drew = w1 := ⟨_, rfl⟩
  have hf1 : Fr (fun _ => False) w w1 := by rw [← hw1]; exact (Fr.alloc w _ _).trans (Fr.drew _ _)
  have hC1 : Cel w1 w.heap.size 82 #[.int .i64 k, .string s, .string t, .slice A nn cc] := by rw [← hw1]; exact heap_alloc_new w _
  have HAP := Lib.hid (hap w1 hf1)
  have HQ := Lib.hid hQ
  have HST := Lib.hid hst
  have k0 := hC1.cell 0
  have k1 := hC1.cell 1
  have k2 := hC1.cell 2
  have k3 := hC1.cell 3
  simp at k0 k1 k2 k3
  clear hap hQ hst
  unfold chg at HAP ⊢
  go_enter Try.func39, Try.ntmps39
  go_wp2_with fail
  go_region_held3 (fun w' => w'.cell? ⟨w.heap.size, 0, none⟩ = some (.int .i64 k) ∧ w'.cell? ⟨w.heap.size, 1, none⟩ = some (.string s) ∧ w'.cell? ⟨w.heap.size, 2, none⟩ = some (.string t) ∧ w'.cell? ⟨w.heap.size, 3, none⟩ = some (.slice A nn cc))
    (first | exact ⟨j0, j1, j2, j3⟩ | go_keep)
    (first | (go_at_call 54; refine HAP.out.mono ?_; rintro e w2 ⟨rfl, hq2, hf2⟩; have hC2 : Cel w2 w.heap.size 82 #[.int .i64 k, .string s, .string t, .slice A nn cc] := hC1.of (hf2.block _ hC1.lt (by omega)); have j0 : w2.cell? ⟨w.heap.size, 0, none⟩ = some (.int .i64 k) := hC2.cell 0; have j1 : w2.cell? ⟨w.heap.size, 1, none⟩ = some (.string s) := hC2.cell 1; have j2 : w2.cell? ⟨w.heap.size, 2, none⟩ = some (.string t) := hC2.cell 2; have j3 : w2.cell? ⟨w.heap.size, 3, none⟩ = some (.slice A nn cc) := hC2.cell 3))
  obtain ⟨mn, hD2, hrow2⟩ := HQ.out w2 hq2
  have d4 := (hD2.cell 4).trans dc4
  have e4 := hD2.fz 4
  clear k0 k1 k2 k3
  have hpd : pv.ownBlock ≠ some d := row_ne hrow2 hD2 (by decide)
  have hnb := hD2.lt
  obtain ⟨i0, hi, hz0, hz1, hz2⟩ := info_parts infoChg
  have hrd2 : w2.drew.ownsRow B 82 4 pv n xs := hrow2
  have hB2 : B ≤ w2.heap.size := Nat.le_trans hB (Nat.le_trans hf1.size hf2.size)
  go_wp2_with fail
  go_region_law (first
    | (refine step_append_chg (by rfl) _ _ (by rfl) B i0 hi hz0 hz1 hz2 pv n xs (by rfl) (hrd2.alloc _) ⟨w2.heap.size, 0, none⟩ (chgCells k s t (.slice A nn cc)) rfl (by rfl) (cells_new w2.drew _ _) (by simp [chgCells, Value.oneCell']) hn (by simp; omega) ?_; intro v4 w4 hown4 hg4 hat4; have hD4 : Cel w4 d 75 (dc mn un ms us pv room fuse steps off) := hD2.of ((hg4.block d (by simp; omega) (fun e => hpd e.symm)).trans (Below.heap_alloc w2.drew _ d hnb)); have d44 := (hD4.cell 4).trans dc4; have e44 := hD4.fz 4; obtain ⟨g4, c4, rfl, _, _⟩ := hown4.form (by omega)))
  all_goals
    have hD5 : Cel (w4.setCell ⟨d, 4, none⟩ (.slice (some ⟨g4, 0, none⟩) (n + 1) c4)) d 75 (dc mn un ms us (.slice (some ⟨g4, 0, none⟩) (n + 1) c4) room fuse steps off) := hD4.set 4 _
    go_wp2_with (go_at_call 41; refine (HST.out _ _ _ hD5).mono ?_; rintro e w6 ⟨rfl, hD6, hf6⟩)
    go_ret
    have hgd : (Value.slice (some ⟨g4, 0, none⟩) (n + 1) c4).ownBlock ≠ some d := row_ne hown4 hD4 (by decide)
    have hrow6 : w6.ownsRow B 82 4 (.slice (some ⟨g4, 0, none⟩) (n + 1) c4) (n + 1) (xs ++ chgCells k s t (.slice A nn cc)) := by
      have h5 := own_far hown4 (grown_set' w4 d 4 (.slice (some ⟨g4, 0, none⟩) (n + 1) c4)) (fun g e e' => hgd (by rw [e, ← e']))
      exact own_fr h5 hf6 (fun g e e' => hgd (by rw [e, e']))
    refine ⟨rfl, w2, _, mn, hq2, hD2, hrow2, hD6, hrow6, ?_, ?_, Nat.le_trans hf1.size hf2.size⟩
    · rcases hat4 with h | h
      · exact .inl h
      · exact .inr ⟨_, h, by simp⟩
    · have f4 : Fr (fun k => k = d ∨ pv.ownBlock = some k) w2 w4 := ((Fr.alloc w2 _ _).trans (Fr.drew _ _)).trans ((Fr.grown hg4).mono (fun i h => .inl (.inr h)))
      exact (f4.trans ((Fr.set w4 d 4 _).mono (fun i h => .inl (.inl h)))).trans (hf6.mono (fun i h => .inl (.inl h)))

end Go.Proofs.Ytbdmlenapccdnaa
namespace Go.Proofs.Ytbdmlenapccdnaa
open Go.RowKit Go.Maps Go.WideMaps

/-- a range over the map b, by the iterator r: L tells which names are still to come -/
def RngV (w : World) (b r n : Nat) (V : ByteArray → Option Value) (L : ByteArray → Bool) (cnt : Nat) : Prop :=
  ∃ (D : DataW Unit) (left : Lit → Bool), w.ranges Try.prog 9 sv b r n D left cnt ∧ (∀ s : ByteArray, has D (ky s) = (V s).isSome ∧ D.atKey (ky s) (sd nilS) = sd ((V s).getD nilS) ∧ isS ((V s).getD nilS) = true) ∧ ∀ s, left (ky s) = L s
theorem RngV.kept {w w' : World} {b r n cnt : Nat} {V : ByteArray → Option Value} {L : ByteArray → Bool} {row : Option Nat} (h : RngV w b r n V L cnt) (hg : w.grownBy w' row) (h1 : some b ≠ row) (h2 : some r ≠ row) : RngV w' b r n V L cnt := by
  obtain ⟨D, left, h3, h4, h5⟩ := h
  exact ⟨D, left, h3.kept hg h1 h2, h4, h5⟩
theorem RngV.lt {w : World} {b r n cnt : Nat} {V : ByteArray → Option Value} {L : ByteArray → Bool} (h : RngV w b r n V L cnt) : r < w.heap.size ∧ b < w.heap.size ∧ r ≠ b := by
  obtain ⟨D, left, h3, _⟩ := h
  exact ⟨h3.lt, h3.owns.lt, h3.ne⟩
theorem RngV.left_eq {w : World} {b r n cnt : Nat} {V : ByteArray → Option Value} {L : ByteArray → Bool} (h : RngV w b r n V L cnt) : w.rangeLeft b r = cnt := by
  obtain ⟨D, left, h3, _⟩ := h
  exact h3.left_eq
theorem RngV.map {w : World} {b r n cnt : Nat} {V : ByteArray → Option Value} {L : ByteArray → Bool} (h : RngV w b r n V L cnt) : MapV w b n V := by
  obtain ⟨D, left, h3, h4, _⟩ := h
  exact ⟨D, h3.owns, h4⟩
theorem key_inv {key : Value} {kl : Lit} (h : keyOf Try.prog 9 key = some kl) : ∃ s : ByteArray, key = .string s ∧ kl = ky s ∧ s.size ≤ maxLen := by
  obtain ⟨s, rfl, h1, h2⟩ := string_of_keyOf Try.underlying9 h
  exact ⟨s, rfl, h1, h2⟩
theorem same_ky (s t : ByteArray) : (ky s).sameKey (ky t) = decide (s = t) := by
  by_cases h : s = t
  · subst h
    simp [ky, Lit.sameKey]
  · rw [sameKey_ne (fun e => h (ky_inj e))]
    simp [h]

theorem wpList_range_V {w : World} {ops : Array Oper} {rest : List Oper} {o : Oper} {a : Act} {Q : Exit → Act → World → Prop} (hg : o.guard = none) (m : Operand) (hop : o.op = Op.range 70 m) (b n : Nat) (V : ByteArray → Option Value)
    (hm : a.eval m = .map (some b)) (hM : MapV w b n V)
    (hK : ∀ w' cnt, RngV w' b w.heap.size n V (fun s => (V s).isSome) cnt → cnt ≤ n → w.grownBy w' none → wpList Try.prog ops Q rest (a.put o.dst (.pointer (some ⟨w.heap.size, 0, none⟩))) w') : wpList Try.prog ops Q (o :: rest) a w := by
  obtain ⟨D, h1, h2⟩ := hM
  exact wpList_range_own w hg m 70 hop 9 28 K Try.underlying70 sv b n D hm h1 (fun w' h3 h4 _ => hK w' _ ⟨D, has D, h3, h2, fun s => (h2 s).1⟩ h1.size_le h4)

theorem wpList_next_V {w : World} {ops : Array Oper} {rest : List Oper} {o : Oper} {a : Act} {Q : Exit → Act → World → Prop} (hg : o.guard = none) (it : Operand) (hop : o.op = Op.next it false) (b r n : Nat) (V : ByteArray → Option Value) (L : ByteArray → Bool) (cnt : Nat)
    (hit : a.eval it = .pointer (some ⟨r, 0, none⟩)) (h : RngV w b r n V L cnt)
    (hDone : (∀ s, L s = false) → wpList Try.prog ops Q rest (a.put o.dst (.tuple #[.bool false])) w)
    (hMore : ∀ (s : ByteArray) (A : Option Addr) (k c : Nat) (w' : World) (cnt' : Nat), s.size ≤ maxLen → L s = true → V s = some (.slice A k c) → RngV w' b r n V (fun z => L z && !decide (z = s)) cnt' → cnt' < cnt →
      w.grownBy w' (some r) → (Instr.entry (.pointer (some ⟨r, 0, none⟩))).run Try.prog w' = .ok (.tuple #[.string s, .slice A k c]) w' → wpList Try.prog ops Q rest (a.put o.dst (.tuple #[.bool true, .string s, .slice A k c])) w') : wpList Try.prog ops Q (o :: rest) a w := by
  obtain ⟨D, left, h1, h2, h3⟩ := h
  refine wpList_next_ranges w hg it hop 9 K sv Value.string (fun x : Option Addr × Nat × Nat => Value.slice x.1 x.2.1 x.2.2) (fun key kl hkey => by obtain ⟨s, rfl, _⟩ := key_inv hkey; exact ⟨s, rfl⟩) (fun v y hv => ?_) b r n D left cnt hit h1 (fun _ hl => hDone (fun s => by rw [← h3, hl])) ?_
  · obtain ⟨hs, _⟩ := sv_inv (ps := y.2) (d := y.1) hv
    unfold isS at hs
    split at hs
    · exact ⟨(_, _, _), rfl⟩
    · exact ⟨(_, _, _), rfl⟩
    · cases hs
  · intro s x kl y w' cnt' hkey hlk hv hat hrg hlt hgr _ hen
    obtain ⟨s', e, rfl, hsz⟩ := key_inv hkey
    cases e
    obtain ⟨hs1, hs2⟩ := sv_inv (ps := y.2) (d := y.1) hv
    obtain ⟨e1, e2, e3⟩ := h2 s
    have hL : L s = true := by rw [← h3]; exact hlk
    have hsome : (V s).isSome = true := by
      rw [← e1]
      exact has_true_of_atKey hat
    have hV : V s = some (.slice x.1 x.2.1 x.2.2) := by
      obtain ⟨v, hv'⟩ := Option.isSome_iff_exists.1 hsome
      rw [hv', Option.getD_some] at e2 e3
      rw [hv', sd_inj e3 hs1 (by rw [← e2, hat, hs2])]
    refine hMore s x.1 x.2.1 x.2.2 w' cnt' hsz hL hV ⟨D, _, hrg, h2, fun z => ?_⟩ hlt hgr hen
    rw [h3, same_ky]

/-- a slice that ends at its end -/
def cutS : Value → Value
  | .slice A n _ => .slice A n n
  | v => v
theorem make_map_hint (w : World) (n : Int) : (Instr.makeMap 70 (some (.int .i64 n))).run Try.prog w = .ok (.map (some w.heap.size)) (w.alloc (.map #[] 0)) := by
  simp [Instr.makeMap]
  rfl

theorem twin_step {V : ByteArray → Option Value} {L : ByteArray → Bool} {s : ByteArray} {A : Option Addr} {k c : Nat} (h : V s = some (.slice A k c)) :
    (fun x => if (L x && !decide (x = s)) = true then none else (V x).map cutS) = fun t => if t = s then some (.slice A k k) else if L t = true then none else (V t).map cutS := by
  funext x
  by_cases e : x = s
  · subst e
    simp [h, cutS]
  · simp [e]
/-- what twin leaves -/
def Twinned (w : World) (V : ByteArray → Option Value) (n : Nat) (used : Int) (e : Ending) (w' : World) : Prop :=
  ∃ b, e = .returned (.agg #[.map (some b), .int .i64 used]) ∧ w.heap.size ≤ b ∧ MapV w' b n (fun x => (V x).map cutS) ∧ Fr (fun _ => False) w w'

set_option maxRecDepth 100000 in
set_option maxHeartbeats 1000000 in
theorem twin_some (w : World) (d o : Nat) (T : TypeId) (C : Array Value) (b n : Nat) (V : ByteArray → Option Value) (used : Int) (hC : Cel w d T C) (c0 : C[o]? = some (.map (some b))) (c1 : C[o + 1]? = some (.int .i64 used)) (hM : MapV w b n V) (hn : n < 1000000)
    (hV : ∀ s A k c, V s = some (.slice A k c) → k ≤ c ∧ c ≤ maxLen ∧ (A = none → c = 0)) :
    Calls Try.prog 43 #[.pointer (some ⟨d, o, none⟩)] w (Twinned w V n used) := by
  obtain ⟨w1, hw1⟩ : ∃ w1, w.alloc (.cells #[.map none, .int .i64 0] 72) = w1 := ⟨_, rfl⟩
  have hz1 : w1.heap.size = w.heap.size + 1 := by rw [← hw1]; simp
  have hb1 : ∀ k, k < w.heap.size → w1.heap[k]? = w.heap[k]? := fun k hk => by rw [← hw1]; exact Below.heap_alloc w _ k hk
  have hC1 := hC.of (hb1 d hC.lt)
  have hM1 := hM.ofBlock (hb1 b hM.lt)
  have hR1 : Cel w1 w.heap.size 72 #[.map none, .int .i64 0] := by rw [← hw1]; exact heap_alloc_new w _
  have hf1 : Fr (fun _ => False) w w1 := by rw [← hw1]; exact Fr.alloc w _ _
  have h0 := (hC1.cell o).trans c0
  obtain ⟨m, hm, hlen⟩ := hM1.len 3
  have hmk := make_map_hint w1 (m : Int)
  obtain ⟨w2, hw2⟩ : ∃ w2, w1.alloc (.map #[] 0) = w2 := ⟨_, rfl⟩
  rw [hw2] at hmk
  have hz2 : w2.heap.size = w1.heap.size + 1 := by rw [← hw2]; simp
  have hb2 : ∀ k, k < w1.heap.size → w2.heap[k]? = w1.heap[k]? := fun k hk => by rw [← hw2]; exact Below.heap_alloc w1 _ k hk
  have hC2 := hC1.of (hb2 d hC1.lt)
  have hM2 := hM1.ofBlock (hb2 b hM1.lt)
  have hR2 := hR1.of (hb2 _ hR1.lt)
  have hN2 : MapV w2 w1.heap.size 0 (fun _ => none) := by rw [← hw2]; exact MapV.new w1
  have hf2 : Fr (fun _ => False) w1 w2 := by rw [← hw2]; exact Fr.alloc w1 _ _
  have k0 := (hC2.cell o).trans c0
  obtain ⟨N, hN⟩ : ∃ N, w1.heap.size = N := ⟨_, rfl⟩
  rw [hN] at hmk hN2
  have hdl := hC.lt
  have hbl := hM.lt
  have HN := Lib.hid hN
  have HZ2 := Lib.hid hz2
  have HZ1 := Lib.hid hz1
  clear hw2 hN hz2 hz1
  go_enter Try.func43, Try.ntmps43
  go_wp2_with (at_range; refine wpList_range_V rfl _ rfl b n V rfl hM2 ?_; intro w3 cnt hR3 hcn hg3)
  obtain ⟨R, hR⟩ : ∃ R, w2.heap.size = R := ⟨_, rfl⟩
  rw [hR] at hR3
  rw [hR]
  have hRN : N < R := by have := HZ2.out; have := HN.out; omega
  have hwN : w.heap.size < N := by have := HZ1.out; have := HN.out; omega
  have hf3 : Fr (fun _ => False) w w3 := (hf1.trans hf2).trans ((Fr.grown hg3).mono (fun i h => by cases h))
  have hC3 := hC.of (hf3.block d hdl (fun h => h))
  have hV3 : Cel w3 w.heap.size 72 #[.map none, .int .i64 0] := hR2.of (hg3.block _ hR2.lt (by simp))
  have hN3 : MapV w3 N 0 (fun _ => none) := hN2.kept hg3 (by simp)
  clear hR hw1 hb1 hC1 hM1 hR1 hf1 h0 hlen hb2 hC2 hM2 hR2 hf2 k0 hN2 hmk hg3 HN HZ2 HZ1
  go_frame
  go_loopw [4] (fun _ wr => ∃ (L : ByteArray → Bool) (j cnt : Nat), RngV wr b R n V L cnt ∧ j + cnt ≤ n ∧ MapV wr N j (fun x => if L x = true then none else (V x).map cutS) ∧ Cel wr d T C ∧ Cel wr w.heap.size 72 #[.map none, .int .i64 0] ∧ Fr (fun _ => False) w wr)
    (fun _ wr => wr.rangeLeft b R)
  case atStart =>
    refine ⟨_, 0, cnt, hR3, by omega, ?_, hC3, hV3, hf3⟩
    have : (fun x => if (V x).isSome = true then none else (V x).map cutS) = (fun _ => (none : Option Value)) := by
      funext x
      cases V x <;> simp
    rw [this]
    exact hN3
  case round =>
    obtain ⟨L, j, cnt1, hRg, hj, hMp, hCr, hVr, hfr⟩ := hrel
    clear hR3 hC3 hV3 hN3 hf3
    have k1 := (hCr.cell (o + 1)).trans c1
    have v0 := hVr.cell 0
    have v1 := hVr.cell 1
    have z0 := hVr.fz 0
    have z1 := hVr.fz 1
    simp at v0 v1
    have hle := hRg.left_eq
    have HLE := Lib.hid hle
    have hlt3 := hRg.lt
    clear hle
    go_wp2_with (at_next; refine wpList_next_V rfl _ rfl b R n V L cnt1 rfl hRg ?_ ?_)
    · intro hdone
      have hfin : (fun x => if L x = true then none else (V x).map cutS) = fun x => (V x).map cutS := by
        funext x
        rw [hdone x]
        simp
      rw [hfin] at hMp
      go_wp2
      have hV6 : Cel ((wr.setCell ⟨w.heap.size, 0, none⟩ (.map (some N))).setCell ⟨w.heap.size, 1, none⟩ (.int .i64 used)) w.heap.size 72 #[.map (some N), .int .i64 used] := (hVr.set 0 _).set 1 _
      have y0 := hV6.cell 0
      have y1 := hV6.cell 1
      simp only [List.getElem?_toArray, List.getElem?_cons_zero, List.getElem?_cons_succ] at y0 y1
      refine bodyPost_ret (v := .agg #[.map (some N), .int .i64 used]) (by simp [results, Try.results43, go_sem, y0, y1]) rfl ⟨N, rfl, by omega, ?_, ?_⟩
      · refine (hMp.mono (n' := n) (by omega)).ofBlock ?_
        rw [Below.heap_setCell _ ⟨w.heap.size, 1, none⟩ _ N (by simp; omega), Below.heap_setCell _ ⟨w.heap.size, 0, none⟩ _ N (by simp; omega)]
      · exact (hfr.then (Fr.set _ w.heap.size 0 _) (fun i h => .inr (by omega))).then (Fr.set _ w.heap.size 1 _) (fun i h => .inr (by omega))
    · intro s A k c w4 cnt4 hsz hLs hVs hRg4 hlt4 hg4 hen
      obtain ⟨hkc, hcm, hA0⟩ := hV s A k c hVs
      unfold maxLen at hcm
      have hMp4 : MapV w4 N j (fun x => if L x = true then none else (V x).map cutS) := hMp.kept hg4 (fun e => by injection e with e; omega)
      have hiS : isS (.slice A k k) = true := by
        obtain ⟨D, _, h3⟩ := hRg4.map
        have := (h3 s).2.2
        rw [hVs, Option.getD_some] at this
        rw [← this]
        cases A with
        | none => rfl
        | some a =>
          obtain ⟨b', o', sp⟩ := a
          cases sp <;> rfl
      obtain ⟨w5, hrun5, hM5, hg5⟩ := hMp4.set s hsz (by unfold maxLen; omega) (.slice A k k) hiS
      have hRg5 := hRg4.kept hg5 (fun e => by injection e with e; omega) (fun e => by injection e with e; omega)
      have hf5 : Fr (fun _ => False) w w5 := (hfr.then (Fr.grown hg4) (fun i h => .inr (by injection h with h; omega))).then (Fr.grown hg5) (fun i h => .inr (by injection h with h; omega))
      have hC5 := hC.of (hf5.block d hdl (fun h => h))
      have hV5 : Cel w5 w.heap.size 72 #[.map none, .int .i64 0] := (hVr.of (hg4.block _ hVr.lt (fun e => by injection e with e; omega))).of (hg5.block _ (Nat.lt_of_lt_of_le hVr.lt hg4.size) (fun e => by injection e with e; omega))
      have HVS := Lib.hid hVs
      clear hVs
      cases A with
      | none =>
        obtain rfl : c = 0 := hA0 rfl
        obtain rfl : k = 0 := by omega
        go_wp2
        exact ⟨⟨_, j + 1, cnt4, hRg5, by omega, by rw [twin_step HVS.out]; exact hM5, hC5, hV5, hf5⟩, by rw [hRg5.left_eq, HLE.out]; exact hlt4⟩
      | some a =>
        go_wp2
        exact ⟨⟨_, j + 1, cnt4, hRg5, by omega, by rw [twin_step HVS.out]; exact hM5, hC5, hV5, hf5⟩, by rw [hRg5.left_eq, HLE.out]; exact hlt4⟩

set_option maxRecDepth 100000 in
set_option maxHeartbeats 1000000 in
theorem twin_none (w : World) (d o : Nat) (T : TypeId) (C : Array Value) (n : Nat) (used : Int) (hC : Cel w d T C) (c0 : C[o]? = some (.map none)) (c1 : C[o + 1]? = some (.int .i64 used)) :
    Calls Try.prog 43 #[.pointer (some ⟨d, o, none⟩)] w (Twinned w (fun _ => none) n used) := by
  obtain ⟨w1, hw1⟩ : ∃ w1, w.alloc (.cells #[.map none, .int .i64 0] 72) = w1 := ⟨_, rfl⟩
  have hz1 : w1.heap.size = w.heap.size + 1 := by rw [← hw1]; simp
  have hC1 := hC.of (w' := w1) (by rw [← hw1]; exact Below.heap_alloc w _ d hC.lt)
  have hR1 : Cel w1 w.heap.size 72 #[.map none, .int .i64 0] := by rw [← hw1]; exact heap_alloc_new w _
  have hf1 : Fr (fun _ => False) w w1 := by rw [← hw1]; exact Fr.alloc w _ _
  have h0 := (hC1.cell o).trans c0
  have hlen := Maps.len_nil (w := w1) Try.underlying70 3
  have hmk := make_map_hint w1 0
  obtain ⟨w2, hw2⟩ : ∃ w2, w1.alloc (.map #[] 0) = w2 := ⟨_, rfl⟩
  rw [hw2] at hmk
  have hz2 : w2.heap.size = w1.heap.size + 1 := by rw [← hw2]; simp
  have hC2 := hC1.of (w' := w2) (by rw [← hw2]; exact Below.heap_alloc w1 _ d hC1.lt)
  have hR2 := hR1.of (w' := w2) (by rw [← hw2]; exact Below.heap_alloc w1 _ _ hR1.lt)
  have hN2 : MapV w2 w1.heap.size 0 (fun _ => none) := by rw [← hw2]; exact MapV.new w1
  have hf2 : Fr (fun _ => False) w1 w2 := by rw [← hw2]; exact Fr.alloc w1 _ _
  have k0 := (hC2.cell o).trans c0
  have hrng := run_range_nilMap (P := Try.prog) w2 70 9 28 Try.underlying70
  have hnx := run_next_nilMap (P := Try.prog) w2 0 0 0 #[]
  obtain ⟨w3, hw3⟩ : ∃ w3, w2.alloc (.mapIter none 0 #[] 0) = w3 := ⟨_, rfl⟩
  rw [hw3] at hrng hnx
  have hC3 := hC2.of (w' := w3) (by rw [← hw3]; exact Below.heap_alloc w2 _ d hC2.lt)
  have hR3 := hR2.of (w' := w3) (by rw [← hw3]; exact Below.heap_alloc w2 _ _ hR2.lt)
  have hN3 : MapV w3 w1.heap.size 0 (fun _ => none) := hN2.ofBlock (by rw [← hw3]; exact Below.heap_alloc w2 _ _ hN2.lt)
  have hf3 : Fr (fun _ => False) w w3 := (hf1.trans hf2).trans (by rw [← hw3]; exact Fr.alloc w2 _ _)
  have k1 := (hC3.cell (o + 1)).trans c1
  have v0 := hR3.cell 0
  have v1 := hR3.cell 1
  have z0 := hR3.fz 0
  have z1 := hR3.fz 1
  simp at v0 v1
  have hdl := hC.lt
  obtain ⟨N, hN⟩ : ∃ N, w1.heap.size = N := ⟨_, rfl⟩
  rw [hN] at hmk hN3
  obtain ⟨Rr, hRr⟩ : ∃ Rr, w2.heap.size = Rr := ⟨_, rfl⟩
  rw [hRr] at hrng hnx
  have hwN : w.heap.size < N := by omega
  clear hN hRr hw2 hw3 hz1 hz2 hC1 hR1 hf1 hC2 hR2 hN2 hf2
  go_enter Try.func43, Try.ntmps43
  go_wp2
  go_loopw [4] (fun _ wr => wr = w3) (fun _ _ => 0)
  case atStart => rfl
  case round =>
    obtain rfl : wr = w3 := hrel
    go_wp2
    have hV6 : Cel ((wr.setCell ⟨w.heap.size, 0, none⟩ (.map (some N))).setCell ⟨w.heap.size, 1, none⟩ (.int .i64 used)) w.heap.size 72 #[.map (some N), .int .i64 used] := (hR3.set 0 _).set 1 _
    have y0 := hV6.cell 0
    have y1 := hV6.cell 1
    simp only [List.getElem?_toArray, List.getElem?_cons_zero, List.getElem?_cons_succ] at y0 y1
    refine bodyPost_ret (v := .agg #[.map (some N), .int .i64 used]) (by simp [results, Try.results43, go_sem, y0, y1]) rfl ⟨N, rfl, by omega, ?_, ?_⟩
    · refine (hN3.mono (n' := n) (Nat.zero_le _)).ofBlock ?_
      rw [Below.heap_setCell _ ⟨w.heap.size, 1, none⟩ _ N (by simp; omega), Below.heap_setCell _ ⟨w.heap.size, 0, none⟩ _ N (by simp; omega)]
    · exact (hf3.then (Fr.set _ w.heap.size 0 _) (fun i h => .inr (by omega))).then (Fr.set _ w.heap.size 1 _) (fun i h => .inr (by omega))

theorem twin_any (w : World) (d o : Nat) (T : TypeId) (C : Array Value) (m : Option Nat) (n : Nat) (V : ByteArray → Option Value) (used : Int) (hC : Cel w d T C) (c0 : C[o]? = some (.map m)) (c1 : C[o + 1]? = some (.int .i64 used)) (hF : Files w m n V) (hn : n < 1000000)
    (hV : ∀ s A k c, V s = some (.slice A k c) → k ≤ c ∧ c ≤ maxLen ∧ (A = none → c = 0)) : Calls Try.prog 43 #[.pointer (some ⟨d, o, none⟩)] w (Twinned w V n used) := by
  rcases hF with ⟨rfl, rfl⟩ | ⟨b, rfl, hM⟩
  · exact twin_none w d o T C n used hC c0 c1
  · exact twin_some w d o T C b n V used hC c0 c1 hM hn hV

end Go.Proofs.Ytbdmlenapccdnaa
