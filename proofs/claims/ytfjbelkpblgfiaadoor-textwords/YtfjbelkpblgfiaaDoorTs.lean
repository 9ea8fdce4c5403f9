/- Contracts of slices.Clone at bytes and of text.Signs. -/
import Derived.Test.YtfjbelkpblgfiaaDoorTf
import Derived.WalkLawsBesides
import Derived.RangeFuncNested
import Derived.RangeFuncBound
import Derived.RangeFuncCalls
import Derived.RangeFuncLeaves
import Derived.RangeFuncBox
import Derived.Shelf.Abstract
import Derived.Shelf.RegionOpen
import Derived.OwnWalkIn
import Derived.TacticsInMore
import Derived.LoopNIn
import Derived.LoopIn
import Derived.Maps.AppendAt
namespace Go.Proofs.YtfjbelkpblgfiaaDoor
open Go.RowKit

theorem infoU8 : (Tryd.prog.info? 5).map (fun i => (i.zero, i.size, i.bytes)) = some (some (.int .u8 0), 1, 1) := by kernel_rfl

theorem eql_nil_none (w : World) : Sem.run Tryd.prog (binOp .eql 23 (.slice none 0 0) (.slice none 0 0)) w = .ok (.bool true) w := by kernel_rfl
theorem eql_nil_some (w : World) (ad : Addr) (n c : Nat) : Sem.run Tryd.prog (binOp .eql 23 (.slice (some ad) n c) (.slice none 0 0)) w = .ok (.bool false) w := by kernel_rfl

theorem Rd.add {w : World} {k : IntKind} {ad : Addr} {xs : List Int} (h : Rd w k (some ad) xs) : ∀ j u, (xs.map (Value.int k))[j]? = some u → w.cell? (ad.add j) = some u := by
  intro j u hu
  rcases h with rfl | ⟨b, off, hA, hb, hc⟩
  · simp at hu
  · obtain rfl : ad = ⟨b, off, none⟩ := by injection hA
    have hj : j < xs.length := by
      rcases Nat.lt_or_ge j xs.length with hlt | hge
      · exact hlt
      · rw [List.getElem?_eq_none (by simpa using hge)] at hu; cases hu
    have h1 := hc j hj
    rw [List.getElem?_map, List.getElem?_eq_getElem hj] at hu
    simp only [Option.map_some, Option.some.injEq] at hu
    rw [List.getElem?_eq_getElem hj, Option.getD_some, hu] at h1
    rw [← h1]
    congr 1
    unfold Addr.add
    split <;> simp_all

/-- a row of the call's own reads as a list -/
theorem Rd.own {w : World} {k : IntKind} {base : Nat} {e : TypeId} {v : Value} {n : Nat} {xs : List Int} (h : w.ownsRow base e 1 v n (xs.map (Value.int k))) : ∃ A cap, v = .slice A xs.length cap ∧ xs.length = n ∧ n ≤ cap ∧ (A = none → cap = 0) ∧ Rd w k A xs := by
  have hl : xs.length = n := by have := h.1; simpa using this
  subst hl
  have hh := h
  rcases h.2 with ⟨rfl, hn⟩ | ⟨g, cap, cur, rfl, _, hg, hnc, _⟩
  · have hx : xs = [] := List.eq_nil_of_length_eq_zero hn
    subst hx
    exact ⟨none, 0, rfl, rfl, by simp, fun _ => rfl, .inl rfl⟩
  · refine ⟨some ⟨g, 0, none⟩, cap, rfl, rfl, hnc, (fun h => by cases h), .inr ⟨g, 0, rfl, (Array.getElem?_eq_some_iff.1 hg).1, fun i hi => ?_⟩⟩
    rw [Nat.zero_add, hh.cellAt i (by omega), List.getElem?_map, List.getElem?_eq_getElem hi]
    simp

/-- what a clone of bytes gives: a row of its own -/
def Cloned (xs : List Int) (w : World) (e : Ending) (w' : World) : Prop :=
  ∃ A cap, e = .returned (.slice A xs.length cap) ∧ w'.ownsRow w.heap.size 5 1 (.slice A xs.length cap) xs.length (xs.map (Value.int .u8)) ∧ Below w.heap.size w w'

set_option maxHeartbeats 400000 in
theorem clone_any (xs : List Int) (A : Option Addr) (cap : Nat) (w : World) (hr : Rd w .u8 A xs) (hA : A = none → cap = 0) (hl : xs.length ≤ 1000000) :
    Calls Tryd.prog 22 #[.slice A xs.length cap] w (Cloned xs w) := by
  cases A with
  | none =>
    obtain rfl : cap = 0 := hA rfl
    have hx : xs = [] := by
      rcases hr with h | ⟨b, off, h, _⟩
      · exact h
      · cases h
    subst hx
    have hq := eql_nil_none
    go_enter Tryd.func22, Tryd.ntmps22
    go_wp2
    go_ret
    exact ⟨none, 0, rfl, World.ownsRow_nil _ _ _ _, Below.refl _ _⟩
  | some ad =>
    obtain ⟨i0, hi, hz0, hz1, hz2⟩ := info_parts infoU8
    have hnews := (hr.below ((Below.refl _ _).alloc (Nat.le_refl _) (.cells #[] 5))).add
    have HN := Lib.hid hnews
    have hown := World.ownsRow_lit (base := w.heap.size) (e := 5) (size := 1) w #[] 0 (Nat.le_refl _) (by decide) rfl
    have HO := Lib.hid hown
    clear hnews hr hown
    have hq := fun W => eql_nil_some W ad xs.length cap
    go_enter Tryd.func22, Tryd.ntmps22
    go_wp2_with (at_builtin; refine wpList_append_own _ rfl _ _ 23 rfl w.heap.size 5 i0 (.int .u8 0) 1 1 Tryd.underlying23 hi hz0 hz1 hz2 rfl (by decide) _ _ _ rfl HO.out ad xs.length cap (xs.map (Value.int .u8)) rfl (by simp) HN.out (by intro u hu; simp at hu; obtain ⟨z, _, rfl⟩ := hu; rfl) (by unfold maxLen; omega) (by omega) (by simp) ?_; intro v' w1 hown' hgrow _; simp only [Nat.zero_add, List.nil_append] at hown')
    go_ret
    obtain ⟨A', cap', rfl, _, hle, hnone, hrd⟩ := Rd.own hown'
    exact ⟨A', cap', rfl, hown', ((Below.refl _ _).alloc (Nat.le_refl _) _).grown hgrow (by simp) (fun k e => by cases e; exact Nat.le_refl _)⟩

/-- the bytes that an iterator over signs holds: its variable lies in block B0 -/
def Src (b : List Int) (base B0 : Nat) (A : Option Addr) (cap : Nat) (W : World) : Prop :=
  Boxed W B0 23 (.slice A b.length cap) ∧ W.ownsRow base 5 1 (.slice A b.length cap) b.length (b.map (Value.int .u8))

def SignsPost (b : List Int) (w : World) (e : Ending) (w' : World) : Prop :=
  ∃ B0 A cap, e = .returned (.func (.func 23) #[] #[.pointer (some ⟨B0, 0, none⟩)]) ∧ w.heap.size ≤ B0 ∧ Src b w.heap.size B0 A cap w' ∧ Below w.heap.size w w'

set_option maxHeartbeats 400000 in
theorem signs_any (xs : List Int) (A : Option Addr) (cap : Nat) (w : World) (hr : Rd w .u8 A xs) (hA : A = none → cap = 0) (hl : xs.length ≤ 1000000) :
    Calls Tryd.prog 14 #[.slice A xs.length cap] w (SignsPost xs w) := by
  have hmf : ∀ (fn : Fn) (first cap : Array Value) (w : World), (Instr.makeFunc fn first cap).run Tryd.prog w = .ok (.func fn first cap) w := fun _ _ _ _ => rfl
  go_enter Tryd.func14, Tryd.ntmps14
  go_wp2_with (go_at_call 22; refine (clone_any xs A cap _ hr hA hl).mono ?_; rintro e w1 ⟨A1, cap1, rfl, hown, hb⟩)
  go_ret
  exact ⟨w1.heap.size, A1, cap1, rfl, hb.size, ⟨Boxed.new w1 23 _, hown.alloc _⟩, hb.alloc hb.size _⟩

end Go.Proofs.YtfjbelkpblgfiaaDoor
