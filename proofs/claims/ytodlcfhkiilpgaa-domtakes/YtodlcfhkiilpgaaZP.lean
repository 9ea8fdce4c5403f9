/- slices.Backward of numbers: its iterator. -/
import Derived.Test.YtodlcfhkiilpgaaZG
import Derived.RangeFuncFrom
import Derived.TacticsIn
import Derived.TacticsInMore
import Derived.LoopN
import Derived.LoopIn
import Derived.BigRegionIn
import Derived.Lib.Hide
namespace Go.Proofs.Ytodlcfhkiilpgaa
open Go.RowKit Go.Shelf Go.Lib
attribute [local go_sem] Oper.semAt_some

/-- pairs of place and number, from the last one on -/
def rvp (xs : List Int) : Nat → List (Nat × Int)
  | 0 => []
  | p + 1 => (p, xs[p]?.getD 0) :: rvp xs p
abbrev encB (x : Nat × Int) : Array Value := #[.int .i64 x.1, .int .i64 x.2]
/-- what the iterator reads -/
structure SrcB (B0 : Nat) (A : Option Addr) (cap : Nat) (xs : List Int) (W : World) : Prop where
  box : W.heap[B0]? = some (.cells #[.slice A xs.length cap] 27 (0, 0))
  rd : Rd W .i64 A xs
theorem SrcB.cell {B0 cap : Nat} {A : Option Addr} {xs : List Int} {W : World} (h : SrcB B0 A cap xs W) : W.cell? ⟨B0, 0, none⟩ = some (.slice A xs.length cap) := by
  rw [cell_of_row _ _ _ _ _ _ h.box]; rfl
theorem back_any (A : Option Addr) (cap : Nat) (xs : List Int) (W : World) (h : Rd W .i64 A xs) : Calls Try.prog 78 #[.slice A xs.length cap] W fun e W' => e = .returned (.func (.func 93) #[] #[.pointer (some ⟨W.heap.size, 0, none⟩)]) ∧ SrcB W.heap.size A cap xs W' ∧ Below W.heap.size W W' ∧ W'.heap.size = W.heap.size + 1 := by
  have hb : Below W.heap.size W (W.alloc (.cells #[.slice A xs.length cap] 27)) := (Below.refl _ W).alloc (Nat.le_refl _) _
  have HS : Hid (SrcB W.heap.size A cap xs (W.alloc (.cells #[.slice A xs.length cap] 27))) := Lib.hid ⟨heap_alloc_new W _, h.below hb⟩
  have HB := Lib.hid hb
  clear h hb
  go_enter Try.func78, Try.ntmps78
  go_wp2
  go_ret
  exact ⟨rfl, HS.out, HB.out, World.size_alloc _ _⟩

set_option maxRecDepth 100000 in
set_option maxHeartbeats 1000000 in
theorem back_in (n : Nat) (hn : 1 ≤ n) (l : Nat) (xs : List Int) (B0 : Nat) (A : Option Addr) (cap : Nat) (J Jx : List (Nat × Int) → World → Prop) (hl : xs.length ≤ 1000000)
    (hY : ∀ pre x W, J pre W → pre.length < xs.length + 1 → YieldAt Fence.wide (n - 1) Try.prog l (encB x) W fun e W' =>
      (e = .returned (.bool true) ∧ J (pre ++ [x]) W' ∧ (SrcB B0 A cap xs W → SrcB B0 A cap xs W')) ∨ (e = .returned (.bool false) ∧ Jx (pre ++ [x]) W'))
    (W : World) (hS : SrcB B0 A cap xs W) (h0 : J [] W) :
    CallsIn Fence.wide n Try.prog 93 #[.func (.yield l) #[] #[], .pointer (some ⟨B0, 0, none⟩)] W fun e W' => (∃ v, e = .returned v) ∧
      ((∃ ys, ys = rvp xs xs.length ∧ J ys W') ∨ (∃ pre, pre <+: rvp xs xs.length ∧ Jx pre W')) := by
  have c0 := hS.cell
  refine callsIn_of_wp Try.func93 rfl trivial ?_ rfl
  simp only [Try.ntmps93, List.size_toArray, List.length_cons, List.length_nil, Nat.reduceAdd, Nat.reduceSub, Array.replicate_succ, Array.replicate_zero, List.push_toArray, List.append_toArray, List.nil_append, List.cons_append]
  gi_wp2
  gi_loopw [3] (fun i wr => ∃ (p : Nat) (pre : List (Nat × Int)), i = .int .i64 ((p : Int) - 1) ∧ p ≤ xs.length ∧ Hid (rvp xs xs.length = pre ++ rvp xs p) ∧ Hid (pre.length + p = xs.length) ∧ SrcB B0 A cap xs wr ∧ J pre wr)
    (fun i _ => (RowKit.intOf i + 1).toNat)
  case atStart => exact ⟨xs.length, [], rfl, Nat.le_refl _, Lib.hid rfl, Lib.hid (by simp), hS, h0⟩
  case round =>
    obtain ⟨p, pre, rfl, hp, HX, HL, hs, hJs⟩ := hrel
    have hcell := hs.cell
    cases p with
    | zero =>
      rw [show (((0 : Nat) : Int) - 1) = -1 from rfl]
      gi_wp2
      go_end0
      exact ⟨⟨_, rfl⟩, .inl ⟨pre, by rw [HX.out]; exact (List.append_nil pre).symm, hJs⟩⟩
    | succ q =>
      rw [show (((q + 1 : Nat) : Int) - 1) = (q : Int) by omega]
      obtain ⟨g, off, rfl, hgl, hcs⟩ := hs.rd.pos (by omega)
      have hcq := hcs q (by omega)
      obtain ⟨r, hr⟩ : ∃ r, xs[q]?.getD 0 = r := ⟨_, rfl⟩
      rw [hr] at hcq
      have HR := Lib.hid hr
      obtain ⟨fn, tmps, assign, body, hy, hRR⟩ := hY pre (q, r) wr hJs (by have := HL.out; omega)
      clear hcs hr
      gi_wp2
      refine hRR.mono ?_
      rintro e W3 (⟨rfl, hJ3, hk3⟩ | ⟨rfl, hJx3⟩)
      · have hs3 := hk3 hs
        gi_wp2
        go_roundw
        case rel => exact ⟨q, pre ++ [(q, r)], rfl, by omega, Lib.hid (by rw [HX.out]; simp [rvp, HR.out]), Lib.hid (by have := HL.out; simp; omega), hs3, hJ3⟩
        case measure => simp [RowKit.intOf]
      · gi_wp2
        refine bodyPost_ret (results_none rfl _ _ _) rfl ?_
        exact ⟨⟨_, rfl⟩, .inr ⟨pre ++ [(q, r)], by rw [HX.out]; simp [rvp, HR.out], hJx3⟩⟩
theorem back_stops (n : Nat) (hn : 1 ≤ n) (xs : List Int) (B0 : Nat) (A : Option Addr) (cap : Nat) (hl : xs.length ≤ 1000000) (w : World) (hS : SrcB B0 A cap xs w) :
    SeqStopsK Fence.wide n Try.prog 93 #[.pointer (some ⟨B0, 0, none⟩)] encB (fun W W' => SrcB B0 A cap xs W → SrcB B0 A cap xs W') (fun ys => ys = rvp xs xs.length) (fun pre => pre <+: rvp xs xs.length) (xs.length + 1) w :=
  fun l J Jx W hW _ _ hY h0 => back_in n hn l xs B0 A cap J Jx hl hY W
    ⟨(hW.block B0 (Array.getElem?_eq_some_iff.1 hS.box).1).trans hS.box, hS.rd.below hW⟩ h0
end Go.Proofs.Ytodlcfhkiilpgaa
