/- The law PathNil, walked. -/
import Derived.Test.YtbdmlenapccdnaaDoorPh
import Derived.RangeFuncFrom
import Derived.TacticsIn
import Derived.TacticsInMore
namespace Go.Proofs.YtbdmlenapccdnaaDoor
open Go.RowKit Go.Shelf
attribute [local go_sem] Oper.semAt_some

theorem Put_nil (s : ByteArray) (n : Int) (w : World) : Calls Tryd.prog 15 #[.pointer none, .string s, .int .i64 n] w fun e w' => e = .returned (.bool false) ∧ w' = w := by
  go_enter Tryd.func15, Tryd.ntmps15
  go_wp2
  go_ret
  exact ⟨rfl, rfl⟩
theorem Get_nil (s : ByteArray) (w : World) : Calls Tryd.prog 16 #[.pointer none, .string s] w fun e w' => e = .returned (.tuple #[.int .i64 0, .bool false]) ∧ Below w.heap.size w w' := by
  go_enter Tryd.func16, Tryd.ntmps16
  go_wp2
  go_ret2
  exact ⟨rfl, Below.refl _ _⟩
theorem Drop_nil (s : ByteArray) (w : World) : Calls Tryd.prog 17 #[.pointer none, .string s] w fun e w' => e = .returned (.bool false) ∧ w' = w := by
  go_enter Tryd.func17, Tryd.ntmps17
  go_wp2
  go_ret
  exact ⟨rfl, rfl⟩
theorem Len_nil (w : World) : Calls Tryd.prog 19 #[.pointer none] w fun e w' => e = .returned (.int .i64 0) ∧ w' = w := by
  go_enter Tryd.func19, Tryd.ntmps19
  go_wp2
  go_ret
  exact ⟨rfl, rfl⟩
theorem Clone_nil (w : World) : Calls Tryd.prog 18 #[.pointer none] w fun e w' => e = .returned (.pointer none) ∧ w' = w := by
  go_enter Tryd.func18, Tryd.ntmps18
  go_wp2
  go_ret
  exact ⟨rfl, rfl⟩
theorem Keys_nil (w : World) : Calls Tryd.prog 21 #[.pointer none] w fun e w' => e = .returned (.slice none 0 0) ∧ w' = w := by
  go_enter Tryd.func21, Tryd.ntmps21
  go_wp2
  go_ret
  exact ⟨rfl, rfl⟩
theorem All_nil (w : World) : Calls Tryd.prog 20 #[.pointer none] w fun e w' => e = .returned (.func (.func 37) #[] #[.pointer (some ⟨w.heap.size, 0, none⟩)]) ∧ w' = w.alloc (.cells #[.pointer none] 28) := by
  go_enter Tryd.func20, Tryd.ntmps20
  go_wp2
  go_ret
  exact ⟨rfl, rfl⟩
theorem iter_nil (l B0 : Nat) (W : World) (hbox : W.cell? ⟨B0, 0, none⟩ = some (.pointer none)) : Calls Tryd.prog 37 #[.func (.yield l) #[] #[], .pointer (some ⟨B0, 0, none⟩)] W fun e W' => e = .returned (.tuple #[]) ∧ W' = W := by
  go_enter Tryd.func37, Tryd.ntmps37
  go_wp2
  refine bodyPost_ret (results_none rfl _ _ _) rfl ?_
  exact ⟨rfl, rfl⟩

/-- the counter's box, and what lies below -/
def NlI (w : World) (R : Nat) (W : World) : Prop := W.heap[R]? = some (.cells #[.int .i64 0] 3 (0, 0)) ∧ Below w.heap.size w W
theorem NlI.own (w : World) (R B : Nat) (hR : R < B) (hwB : w.heap.size ≤ B) : OwnFrom B (fun (_ : List (Value × Value)) W => NlI w R W) := by
  rintro s W W' row ⟨h1, h3⟩ hg hr
  have l1 := (Array.getElem?_eq_some_iff.1 h1).1
  exact ⟨(hg.block R l1 (fun e => by have := (hr R e.symm).1; omega)).trans h1, h3.grown hg h3.size (fun k e => by have := (hr k e).1; omega)⟩
theorem grown_of_below {W W' : World} (h : Below W.heap.size W W') : W.grownBy W' none := ⟨h.os, h.tape, h.output, h.size, fun k hk _ => h.block k hk⟩

set_option maxRecDepth 100000 in
set_option maxHeartbeats 2000000 in
theorem pathNil_law (s : ByteArray) (n : Int) (w : World) (hm : MX w) :
    Calls Tryd.prog 5 #[.string s, .int .i64 n] w fun e w' => e = .returned (.bool true) ∧ Below w.heap.size w w' := by
  refine (callsIn_wide (n := 9)).1 ?_
  refine callsIn_of_wp_marks Tryd.func5 rfl trivial ?_ rfl
  simp only [Tryd.ntmps5, List.size_toArray, List.length_cons, List.length_nil, Nat.reduceAdd, Nat.reduceSub, Array.replicate_succ, Array.replicate_zero, List.push_toArray, List.append_toArray, List.nil_append, List.cons_append]
  have KH := Lib.hid (head6_any w hm)
  clear hm
  gi_wp2_with (refine ⟨trivial, ?_⟩; gi_at_call 8; refine (callsIn_wide.2 KH.out).mono ?_; rintro e w1 ⟨rfl, hb1⟩)
  have KG := Lib.hid (Get_nil s w1)
  gi_wp2_with (refine ⟨trivial, ?_⟩; gi_at_call 16; refine (callsIn_wide.2 KG.out).mono ?_; rintro e w2 ⟨rfl, hb2⟩)
  have KA := Lib.hid (fun w => All_nil w)
  gi_wp2_with (refine ⟨trivial, ?_⟩; gi_at_call 20; refine (callsIn_wide.2 (KA.out _)).mono ?_; rintro e w3 ⟨rfl, rfl⟩)
  have hb12 : Below w.heap.size w w2 := hb1.trans (hb2.mono hb1.size)
  clear KH KG KA hb1 hb2
  obtain ⟨W1, hW1⟩ : ∃ W1, (w2.alloc (.cells #[.int .i64 0] 3)).alloc (.cells #[.pointer none] 28) = W1 := ⟨_, rfl⟩
  have hs1 : W1.heap.size = w2.heap.size + 2 := by rw [← hW1]; simp
  have hB1 : Below w.heap.size w W1 := by rw [← hW1]; exact (hb12.alloc hb12.size _).alloc (by have := hb12.size; simp; omega) _
  have c0 : W1.heap[w2.heap.size]? = some (.cells #[.int .i64 0] 3 (0, 0)) := by
    rw [← hW1, Below.heap_alloc _ _ _ (by simp)]
    exact heap_alloc_new w2 _
  have c2 : W1.cell? ⟨w2.heap.size + 1, 0, none⟩ = some (.pointer none) := by
    rw [← hW1]
    simp
  rw [hW1]
  clear hW1
  have hsz := hb12.size
  have hk8 := Lib.hid (fun (l : Nat) (W : World) (h : Below W1.heap.size W1 W) => iter_nil l (w2.heap.size + 1) W ((h.cell (p := ⟨w2.heap.size + 1, 0, none⟩) (by rw [hs1]; exact Nat.lt_succ_self _)).trans c2))
  clear c2
  refine wpIn_rangeFunc_ownF (F := Fence.wide) (n := 9) (α := Value × Value) rfl (by omega) (gf := 37) (lb := #[.pointer (some ⟨w2.heap.size + 1, 0, none⟩)]) rfl trivial (enters_of Tryd.func37 (by kernel_rfl) rfl)
    (encs := fun x => #[x.1, x.2]) (Kp := fun _ _ => True) (S := fun xs => xs = []) (Sp := fun _ => False) (N := 0) (w0 := W1)
    (fun l J Jx W hW hJ _ _ h0 => (callsIn_wide.2 (hk8.out l W hW)).mono (fun e W' h => ⟨⟨_, h.1⟩, .inl ⟨[], rfl, by rw [h.2]; exact h0⟩⟩))
    (fun _ _ => trivial) (fun _ _ _ _ _ _ _ _ => trivial) (Below.refl _ _) (fun _ => rfl)
    (fun _ W => NlI w w2.heap.size W) (fun _ _ _ => False) (NlI.own w w2.heap.size _ (by omega) (by omega)) (fun _ _ _ _ _ hs _ _ => hs) ⟨c0, hB1⟩
    (fun x => { tmps := #[.string s, .int .i64 n, undef, undef, .bool false, .pointer none, .int .i64 0, .bool false, .pointer (some ⟨w2.heap.size, 0, none⟩), .bool true, .bool false, .tuple #[.int .i64 0, .bool false], .pointer none, .string s, .tuple #[.int .i64 0, .bool false], .int .i64 0, .bool false, .pointer none, .func (.func 37) #[] #[.pointer (some ⟨w2.heap.size + 1, 0, none⟩)], x.1, x.2, undef, undef, undef, undef, undef, undef, undef, undef, undef, undef, undef, undef, undef, undef, undef, undef, undef, undef, undef, undef, undef, undef, undef, undef, undef, undef, undef, undef, undef, undef, undef, undef, undef, undef, undef, undef, undef, undef, undef, undef, undef], defers := [] }) ?assign ?body ?done ?stop
  case assign =>
    intro l x W K hK
    gi_wp2
    exact hK
  case body =>
    intro l pre x W _ h
    omega
  case stop =>
    rintro D c pre W _ h
    exact h.elim
  case done =>
    rintro D xs W hD _ ⟨g0, hB⟩ hK
    have hc1 : W.cell? ⟨w2.heap.size, 0, none⟩ = some (.int .i64 0) := by simp only [World.cell?, g0]; rfl
    have KP := Lib.hid (Put_nil s n W)
    have KD := Lib.hid (Drop_nil s W)
    have KL := Lib.hid (Len_nil W)
    have KC := Lib.hid (Clone_nil W)
    have KK := Lib.hid (Keys_nil W)
    gi_wp2_with (first
      | (refine ⟨trivial, ?_⟩; gi_at_call 15; refine (callsIn_wide.2 KP.out).mono ?_; rintro e w3 ⟨rfl, rfl⟩)
      | (refine ⟨trivial, ?_⟩; gi_at_call 17; refine (callsIn_wide.2 KD.out).mono ?_; rintro e w3 ⟨rfl, rfl⟩)
      | (refine ⟨trivial, ?_⟩; gi_at_call 19; refine (callsIn_wide.2 KL.out).mono ?_; rintro e w3 ⟨rfl, rfl⟩)
      | (refine ⟨trivial, ?_⟩; gi_at_call 18; refine (callsIn_wide.2 KC.out).mono ?_; rintro e w3 ⟨rfl, rfl⟩)
      | (refine ⟨trivial, ?_⟩; gi_at_call 21; refine (callsIn_wide.2 KK.out).mono ?_; rintro e w3 ⟨rfl, rfl⟩)
      | fail)
    refine ⟨by simp, .inl ⟨_, _, rfl, run_takeDeferred hK, ?_⟩⟩
    exact ⟨_, results_tmp rfl _ _ _, rfl, hB.grown (grownBy_putObj' _ D _) hB.size (fun r e => by cases e; omega)⟩

end Go.Proofs.YtbdmlenapccdnaaDoor
