/- Contract of frame.Whole where no frame begins the bytes. -/
import Derived.Test.YtanbbomdidefjaaFy
import Derived.RangeFuncFrom
import Derived.TacticsIn
import Derived.TacticsInMore
import Derived.LoopN
namespace Go.Proofs.Ytanbbomdidefjaa
open Go.RowKit Go.Shelf
attribute [local go_sem] Oper.semAt_some

/-- the answer where no frame begins the bytes -/
theorem Next_err (b : List Int) (A : Option Addr) (cap : Nat) (k : Int) (w : World) (hb : Rd w .u8 A b) (h8 : Byte8 b) (hcap : b.length ≤ cap) (hcm : cap ≤ maxLen) (hl : b.length ≤ 10000000) (hn : nextP b = .error k) :
    Calls Try.prog 16 #[.slice A b.length cap] w fun e w' => e = .returned (.tuple #[.slice none 0 0, .int .i64 0, .int .i64 k]) ∧ Below w.heap.size w w' := by
  refine (Next_any b A cap w hb h8 hcap hcm hl).mono ?_
  rintro e w' ⟨h1, h2⟩
  rw [hn] at h2
  exact ⟨h2, h1⟩

set_option maxRecDepth 100000 in
set_option maxHeartbeats 400000 in
theorem iter_err (l B0 : Nat) (b : List Int) (A : Option Addr) (cap : Nat) (k : Int) (W : World) (hbox : W.cell? ⟨B0, 0, none⟩ = some (.slice A b.length cap)) (hb : Rd W .u8 A b) (h8 : Byte8 b) (hcap : b.length ≤ cap) (hcm : cap ≤ maxLen) (hl : b.length ≤ 10000000) (hn : nextP b = .error k) (hk : k ≠ 0) :
    Calls Try.prog 24 #[.func (.yield l) #[] #[], .pointer (some ⟨B0, 0, none⟩)] W fun e W' => e = .returned (.tuple #[]) ∧ Below W.heap.size W W' := by
  have kN := Lib.hid (Next_err b A cap k W hb h8 hcap hcm hl hn)
  have hd : (k != 0) = true := by simpa using hk
  have hb0 : (0 : Int) ≤ (b.length : Int) := by omega
  unfold maxLen at hcm
  clear hk
  go_enter Try.func24, Try.ntmps24
  go_wp2
  refine wp_loop_rounds 1 ?_
  rw [rounds_succ]
  go_wp2_with fail
  refine kN.out.mono ?_
  rintro e w2 ⟨rfl, hb2⟩
  go_wp2
  refine bodyPost_ret (results_none rfl _ _ _) rfl ?_
  exact ⟨rfl, hb2⟩

/-- a function value over a box of the bytes -/
theorem frames_any (b : List Int) (A : Option Addr) (cap : Nat) (w : World) : Calls Try.prog 14 #[.slice A b.length cap] w fun e w' => e = .returned (.func (.func 24) #[] #[.pointer (some ⟨w.heap.size, 0, none⟩)]) ∧ w' = w.alloc (.cells #[.slice A b.length cap] 24) := by
  go_enter Try.func14, Try.ntmps14
  go_wp2
  go_ret
  exact ⟨rfl, rfl⟩

/-- the cells of two boxes, and what lies below -/
def WhI (w : World) (R : Nat) (W : World) : Prop := W.heap[R]? = some (.cells #[.slice none 0 0] 22 (0, 0)) ∧ W.heap[R + 1]? = some (.cells #[.int .i64 0] 3 (0, 0)) ∧ Below w.heap.size w W

theorem WhI.own (w : World) (R B : Nat) (hR : R + 1 < B) (hwB : w.heap.size ≤ B) : OwnFrom B (fun (_ : List (Value × Value)) W => WhI w R W) := by
  rintro s W W' row ⟨h1, h2, h3⟩ hg hr
  have ne : ∀ k, k < B → row ≠ some k := fun k hk e => by have := (hr k e).1; omega
  have l1 := (Array.getElem?_eq_some_iff.1 h1).1
  have l2 := (Array.getElem?_eq_some_iff.1 h2).1
  exact ⟨(hg.block R l1 (fun e => ne R (by omega) e.symm)).trans h1, (hg.block (R + 1) l2 (fun e => ne (R + 1) (by omega) e.symm)).trans h2, h3.grown hg h3.size (fun k e => by have := (hr k e).1; omega)⟩
theorem grown_of_below {W W' : World} (h : Below W.heap.size W W') : W.grownBy W' none := ⟨h.os, h.tape, h.output, h.size, fun k hk _ => h.block k hk⟩

set_option maxRecDepth 100000 in
set_option maxHeartbeats 2000000 in
theorem Whole_err (b : List Int) (A : Option Addr) (cap : Nat) (k : Int) (w : World) (hb : Rd w .u8 A b) (h8 : Byte8 b) (hcap : b.length ≤ cap) (hcm : cap ≤ maxLen) (hl : b.length ≤ 10000000) (hpos : 0 < b.length) (hn : nextP b = .error k) (hk : k ≠ 0) :
    Calls Try.prog 8 #[.slice A b.length cap] w fun e w' => e = .returned (.tuple #[.slice none 0 0, .int .i64 k]) ∧ Below w.heap.size w w' := by
  refine (callsIn_wide (n := 9)).1 ?_
  refine callsIn_of_wp_marks Try.func8 rfl trivial ?_ rfl
  simp only [Try.ntmps8, List.size_toArray, List.length_cons, List.length_nil, Nat.reduceAdd, Nat.reduceSub, Array.replicate_succ, Array.replicate_zero, List.push_toArray, List.append_toArray, List.nil_append, List.cons_append]
  have HF := Lib.hid (fun w => frames_any b A cap w)
  gi_wp2_with (refine ⟨trivial, ?_⟩; gi_at_call 14; refine (callsIn_wide.2 (HF.out _)).mono ?_; rintro e w1 ⟨rfl, rfl⟩)
  obtain ⟨W1, hW1⟩ : ∃ W1, ((w.alloc (.cells #[.slice none 0 0] 22)).alloc (.cells #[.int .i64 0] 3)).alloc (.cells #[.slice A b.length cap] 24) = W1 := ⟨_, rfl⟩
  have hs1 : W1.heap.size = w.heap.size + 3 := by rw [← hW1]; simp
  have hB1 : Below w.heap.size w W1 := by rw [← hW1]; exact (((Below.refl _ w).alloc (Nat.le_refl _) _).alloc (by simp) _).alloc (by simp; omega) _
  have c0 : W1.heap[w.heap.size]? = some (.cells #[.slice none 0 0] 22 (0, 0)) := by
    rw [← hW1, Below.heap_alloc _ _ _ (by simp; omega), Below.heap_alloc _ _ _ (by simp)]
    exact heap_alloc_new w _
  have c1 : W1.heap[w.heap.size + 1]? = some (.cells #[.int .i64 0] 3 (0, 0)) := by
    rw [← hW1, Below.heap_alloc _ _ _ (by simp)]
    have := heap_alloc_new (w.alloc (.cells #[.slice none 0 0] 22)) (.cells #[.int .i64 0] 3)
    simpa using this
  have c2 : W1.cell? ⟨w.heap.size + 2, 0, none⟩ = some (.slice A b.length cap) := by
    rw [← hW1]
    have := World.cell?_alloc_new ((w.alloc (.cells #[.slice none 0 0] 22)).alloc (.cells #[.int .i64 0] 3)) #[.slice A b.length cap] 24 0
    simpa using this
  rw [hW1]
  clear hW1
  have hd : (k != 0) = true := by simpa using hk
  have hb1 : Rd W1 .u8 A b := hb.below hB1
  have NE := Lib.hid (fun W (h : Below w.heap.size w W) => Next_err b A cap k W (hb.below h) h8 hcap hcm hl hn)
  have hlt : decide ((0 : Int) < (b.length : Int)) = true := by simp; omega
  have hb0 : (0 : Int) ≤ (b.length : Int) := by omega
  have hk8 := Lib.hid (fun (l : Nat) (W : World) (h : Below W1.heap.size W1 W) => iter_err l (w.heap.size + 2) b A cap k W ((h.cell (p := ⟨w.heap.size + 2, 0, none⟩) (by rw [hs1]; exact Nat.lt_succ_self _)).trans c2) (hb1.below h) h8 hcap hcm hl hn hk)
  unfold maxLen at hcm
  clear HF hk hn hb hb1 c2
  refine wpIn_rangeFunc_ownF (F := Fence.wide) (n := 9) (α := Value × Value) rfl (by omega) (gf := 24) (lb := #[.pointer (some ⟨w.heap.size + 2, 0, none⟩)]) rfl trivial (enters_of Try.func24 (by kernel_rfl) rfl)
    (encs := fun x => #[x.1, x.2]) (Kp := fun _ _ => True) (S := fun xs => xs = []) (Sp := fun _ => False) (N := 0) (w0 := W1)
    (fun l J Jx W hW hJ _ _ h0 => (callsIn_wide.2 (hk8.out l W hW)).mono (fun e W' h => ⟨⟨_, h.1⟩, .inl ⟨[], rfl, hJ [] W W' none h0 (grown_of_below h.2) (by intro r e; cases e)⟩⟩))
    (fun _ _ => trivial) (fun _ _ _ _ _ _ _ _ => trivial) (Below.refl _ _) (fun _ => rfl)
    (fun _ W => WhI w w.heap.size W) (fun _ _ _ => False) (WhI.own w w.heap.size _ (by omega) (by omega)) (fun _ _ _ _ _ hs _ _ => hs) ⟨c0, c1, hB1⟩
    (fun x => { tmps := #[.slice A b.length cap, undef, .slice none 0 0, .int .i64 0, .pointer (some ⟨w.heap.size, 0, none⟩), .pointer (some ⟨w.heap.size + 1, 0, none⟩), x.1, x.2, undef, undef, undef, .slice A b.length cap, .func (.func 24) #[] #[.pointer (some ⟨w.heap.size + 1 + 1, 0, none⟩)], x.1, x.2, undef, undef, undef, undef, undef, undef, undef, undef, undef, undef, undef, undef, undef, undef, undef, undef, undef, undef, undef], defers := [] }) ?assign ?body ?done ?stop
  case assign =>
    intro l x W K hK
    gi_wp2
    exact hK
  case body =>
    intro l pre x W _ h
    omega
  case stop =>
    rintro D c pre W _ h
    exact h.elim
  case done =>
    rintro D xs W hD _ ⟨g0, g1, hB⟩ hK
    have hc1 : W.cell? ⟨w.heap.size + 1, 0, none⟩ = some (.int .i64 0) := by simp only [World.cell?, g1]; rfl
    gi_wp2_with (refine ⟨trivial, ?_⟩; gi_at_call 16; refine (callsIn_wide.2 (NE.out W hB)).mono ?_; rintro e w2 ⟨rfl, hb2⟩)
    have hDl := (Array.getElem?_eq_some_iff.1 hK).1
    have hK2 : w2.heap[D]? = some (.deferred (some [])) := (hb2.block D hDl).trans hK
    have hBf : Below w.heap.size w w2 := thn hB hb2
    refine ⟨by simp, .inl ⟨_, _, rfl, run_takeDeferred hK2, ?_⟩⟩
    exact ⟨_, results_tmp2 rfl _ _ _, rfl, hBf.grown (grownBy_putObj' w2 D _) hBf.size (fun r e => by cases e; omega)⟩

end Go.Proofs.Ytanbbomdidefjaa
