/- No disk; Fuse. What a disk refuses. A Write that finds no room. A new disk in memory. Files as a list in order, plain: looked up, put, taken out; how many bytes. A disk, plain, and how a disk in memory is it. A disk in memory that is a plain one; a step, a change. -/
import Derived.Test.YtbdmlenapccdnaaJoin3
namespace Go.Proofs.Ytbdmlenapccdnaa
open Go.RowKit

theorem Used_nil (w : World) : Calls Try.prog 23 #[.pointer none] w fun e w' => e = .returned (.int .i64 0) ∧ w = w' := by
  go_enter Try.func23, Try.ntmps23
  go_wp2
  go_ret
  exact ⟨rfl, rfl⟩

theorem Free_nil (w : World) : Calls Try.prog 24 #[.pointer none] w fun e w' => e = .returned (.int .i64 0) ∧ w = w' := by
  go_enter Try.func24, Try.ntmps24
  go_wp2
  go_ret
  exact ⟨rfl, rfl⟩

theorem Down_nil (w : World) : Calls Try.prog 21 #[.pointer none] w fun e w' => e = .returned (.bool false) ∧ w = w' := by
  go_enter Try.func21, Try.ntmps21
  go_wp2
  go_ret
  exact ⟨rfl, rfl⟩

theorem Steps_nil (w : World) : Calls Try.prog 22 #[.pointer none] w fun e w' => e = .returned (.int .i64 0) ∧ w = w' := by
  go_enter Try.func22, Try.ntmps22
  go_wp2
  go_ret
  exact ⟨rfl, rfl⟩

theorem Names_nil (w : World) : Calls Try.prog 25 #[.pointer none] w fun e w' => e = .returned (.slice none 0 0) ∧ w = w' := by
  go_enter Try.func25, Try.ntmps25
  go_wp2
  go_ret
  exact ⟨rfl, rfl⟩

theorem Fuse_nil (w : World) (n : Int) : Calls Try.prog 19 #[.pointer none, .int .i64 n] w fun e w' => e = .returned (.tuple #[]) ∧ w = w' := by
  go_enter Try.func19, Try.ntmps19
  go_wp2
  refine bodyPost_ret (results_none rfl _ _ _) rfl ?_
  exact ⟨rfl, rfl⟩

theorem Crash_nil (w : World) (k t : Int) : Calls Try.prog 20 #[.pointer none, .int .i64 k, .int .i64 t] w fun e w' => e = .returned (.tuple #[]) ∧ w = w' := by
  go_enter Try.func20, Try.ntmps20
  go_wp2
  refine bodyPost_ret (results_none rfl _ _ _) rfl ?_
  exact ⟨rfl, rfl⟩

theorem Sync_nil (w : World) : Calls Try.prog 16 #[.pointer none] w fun e w' => e = .returned (.int .i64 1) ∧ w = w' := by
  have HR := Lib.hid (ready_nil none 0 0 w)
  go_enter Try.func16, Try.ntmps16
  go_wp2_with fail
  refine HR.out.mono ?_
  rintro e w' ⟨rfl, rfl⟩
  go_wp2
  go_ret
  exact ⟨rfl, rfl⟩

theorem Write_nil (w : World) (s : ByteArray) (b : Value) : Calls Try.prog 13 #[.pointer none, .string s, b] w fun e w' => e = .returned (.int .i64 1) ∧ Fr (fun _ => False) w w' := by
  obtain ⟨W0, hW0⟩ : ∃ W0, w.alloc (.cells #[.string s] 9) = W0 := ⟨_, rfl⟩
  have hf0 : Fr (fun _ => False) w W0 := by rw [← hW0]; exact Fr.alloc w _ _
  have HR := Lib.hid (ready_nil (some ⟨w.heap.size, 0, none⟩) 1 1 W0)
  have HW := Lib.hid hW0
  clear hW0
  go_enter Try.func13, Try.ntmps13
  go_wp2_with fail
  rw [HW.out]
  refine HR.out.mono ?_
  rintro e w' ⟨rfl, rfl⟩
  go_wp2
  go_ret
  exact ⟨rfl, hf0⟩

theorem Drop_nil (w : World) (s : ByteArray) : Calls Try.prog 15 #[.pointer none, .string s] w fun e w' => e = .returned (.int .i64 1) ∧ Fr (fun _ => False) w w' := by
  obtain ⟨W0, hW0⟩ : ∃ W0, w.alloc (.cells #[.string s] 9) = W0 := ⟨_, rfl⟩
  have hf0 : Fr (fun _ => False) w W0 := by rw [← hW0]; exact Fr.alloc w _ _
  have HR := Lib.hid (ready_nil (some ⟨w.heap.size, 0, none⟩) 1 1 W0)
  have HW := Lib.hid hW0
  clear hW0
  go_enter Try.func15, Try.ntmps15
  go_wp2_with fail
  rw [HW.out]
  refine HR.out.mono ?_
  rintro e w' ⟨rfl, rfl⟩
  go_wp2
  go_ret
  exact ⟨rfl, hf0⟩

theorem Move_nil (w : World) (s t : ByteArray) : Calls Try.prog 14 #[.pointer none, .string s, .string t] w fun e w' => e = .returned (.int .i64 1) ∧ Fr (fun _ => False) w w' := by
  obtain ⟨W0, hW0⟩ : ∃ W0, w.alloc (.cells #[.string s, .string t] 9) = W0 := ⟨_, rfl⟩
  have hf0 : Fr (fun _ => False) w W0 := by rw [← hW0]; exact Fr.alloc w _ _
  have HR := Lib.hid (ready_nil (some ⟨w.heap.size, 0, none⟩) 2 2 W0)
  have HW := Lib.hid hW0
  clear hW0
  go_enter Try.func14, Try.ntmps14
  go_wp2_with fail
  rw [HW.out]
  refine HR.out.mono ?_
  rintro e w' ⟨rfl, rfl⟩
  go_wp2
  go_ret
  exact ⟨rfl, hf0⟩

theorem Read_nil (w : World) (s : ByteArray) : Calls Try.prog 17 #[.pointer none, .string s] w fun e w' => e = .returned (.tuple #[.slice none 0 0, .int .i64 1]) ∧ Fr (fun _ => False) w w' := by
  obtain ⟨W0, hW0⟩ : ∃ W0, w.alloc (.cells #[.string s] 9) = W0 := ⟨_, rfl⟩
  have hf0 : Fr (fun _ => False) w W0 := by rw [← hW0]; exact Fr.alloc w _ _
  have HR := Lib.hid (ready_nil (some ⟨w.heap.size, 0, none⟩) 1 1 W0)
  have HW := Lib.hid hW0
  clear hW0
  go_enter Try.func17, Try.ntmps17
  go_wp2_with fail
  rw [HW.out]
  refine HR.out.mono ?_
  rintro e w' ⟨rfl, rfl⟩
  go_wp2
  go_ret2
  exact ⟨rfl, hf0⟩

theorem Fuse_off (w : World) (d B : Nat) (σ : Dv) (n : Int) (h : DInv w d B σ) (hoff : σ.off = true) : Calls Try.prog 19 #[.pointer (some ⟨d, 0, none⟩), .int .i64 n] w fun e w' => e = .returned (.tuple #[]) ∧ w = w' := by
  have h8 := (h.cel.cell 8).trans dc8
  rw [hoff] at h8
  go_enter Try.func19, Try.ntmps19
  go_wp2
  refine bodyPost_ret (results_none rfl _ _ _) rfl ?_
  exact ⟨rfl, rfl⟩

theorem Fuse_on (w : World) (d B : Nat) (σ : Dv) (n : Int) (h : DInv w d B σ) (hoff : σ.off = false) : Calls Try.prog 19 #[.pointer (some ⟨d, 0, none⟩), .int .i64 n] w fun e w' => e = .returned (.tuple #[]) ∧ DInv w' d B { σ with fuse := max n 0, steps := σ.steps, off := σ.off } ∧ Fr (fun k => k = d) w w' := by
  have h8 := (h.cel.cell 8).trans dc8
  rw [hoff] at h8
  have h6 := (h.cel.cell 6).trans dc6
  have f6 := h.cel.fz 6
  go_enter Try.func19, Try.ntmps19
  go_wp2
  go_end0
  exact ⟨rfl, h.turn (h.cel.set 6 _) (Fr.set w d 6 _), Fr.set w d 6 _⟩

end Go.Proofs.Ytbdmlenapccdnaa
namespace Go.Proofs.Ytbdmlenapccdnaa
open Go.RowKit

theorem Write_bad (w : World) (d B : Nat) (σ : Dv) (s : ByteArray) (b : Value) (code : Int) (h : DInv w d B σ) (hsm : s.size ≤ maxLen) (hR : readyR σ.off [s] = code) (hc : code ≠ 0) :
    Calls Try.prog 13 #[.pointer (some ⟨d, 0, none⟩), .string s, b] w fun e w' => e = .returned (.int .i64 code) ∧ Fr (fun _ => False) w w' := by
  obtain ⟨W0, hW0⟩ : ∃ W0, w.alloc (.cells #[.string s] 9) = W0 := ⟨_, rfl⟩
  have hf0 : Fr (fun _ => False) w W0 := by rw [← hW0]; exact Fr.alloc w _ _
  have h0 := h.keep hf0
  have hN0 : Cel W0 w.heap.size 9 #[.string s] := by rw [← hW0]; exact heap_alloc_new w _
  have hrdy : Calls Try.prog 37 #[.pointer (some ⟨d, 0, none⟩), .slice (some ⟨w.heap.size, 0, none⟩) 1 1] W0 fun e w' => e = .returned (.int .i64 code) ∧ W0 = w' := by
    have := ready_any σ.mn σ.ms σ.un σ.us σ.room σ.fuse σ.steps σ.pv σ.off W0 d [s] (some ⟨w.heap.size, 0, none⟩) 1 h0.cel (.inr ⟨_, 0, rfl, fun i x hi => by
      match i, hi with
      | 0, hi => simp at hi; subst hi; exact hN0.cell 0
      | i + 1, hi => simp at hi⟩) (by simp) (fun x hx => by simp at hx; subst hx; exact hsm)
    rw [hR] at this
    exact this
  have t0 : (code == 0) = false := by simpa using hc
  have t1 : (code != 0) = true := by simpa using hc
  have HR := Lib.hid hrdy
  have HW := Lib.hid hW0
  clear hrdy hW0 hR hc
  go_enter Try.func13, Try.ntmps13
  go_wp2_with fail
  rw [HW.out]
  refine HR.out.mono ?_
  rintro e w' ⟨rfl, rfl⟩
  go_wp2
  go_ret
  exact ⟨rfl, hf0⟩

theorem Drop_bad (w : World) (d B : Nat) (σ : Dv) (s : ByteArray) (code : Int) (h : DInv w d B σ) (hsm : s.size ≤ maxLen) (hR : readyR σ.off [s] = code) (hc : code ≠ 0) :
    Calls Try.prog 15 #[.pointer (some ⟨d, 0, none⟩), .string s] w fun e w' => e = .returned (.int .i64 code) ∧ Fr (fun _ => False) w w' := by
  obtain ⟨W0, hW0⟩ : ∃ W0, w.alloc (.cells #[.string s] 9) = W0 := ⟨_, rfl⟩
  have hf0 : Fr (fun _ => False) w W0 := by rw [← hW0]; exact Fr.alloc w _ _
  have h0 := h.keep hf0
  have hN0 : Cel W0 w.heap.size 9 #[.string s] := by rw [← hW0]; exact heap_alloc_new w _
  have hrdy : Calls Try.prog 37 #[.pointer (some ⟨d, 0, none⟩), .slice (some ⟨w.heap.size, 0, none⟩) 1 1] W0 fun e w' => e = .returned (.int .i64 code) ∧ W0 = w' := by
    have := ready_any σ.mn σ.ms σ.un σ.us σ.room σ.fuse σ.steps σ.pv σ.off W0 d [s] (some ⟨w.heap.size, 0, none⟩) 1 h0.cel (.inr ⟨_, 0, rfl, fun i x hi => by
      match i, hi with
      | 0, hi => simp at hi; subst hi; exact hN0.cell 0
      | i + 1, hi => simp at hi⟩) (by simp) (fun x hx => by simp at hx; subst hx; exact hsm)
    rw [hR] at this
    exact this
  have t0 : (code == 0) = false := by simpa using hc
  have t1 : (code != 0) = true := by simpa using hc
  have HR := Lib.hid hrdy
  have HW := Lib.hid hW0
  clear hrdy hW0 hR hc
  go_enter Try.func15, Try.ntmps15
  go_wp2_with fail
  rw [HW.out]
  refine HR.out.mono ?_
  rintro e w' ⟨rfl, rfl⟩
  go_wp2
  go_ret
  exact ⟨rfl, hf0⟩

theorem Move_bad (w : World) (d B : Nat) (σ : Dv) (s t : ByteArray) (code : Int) (h : DInv w d B σ) (hsm : s.size ≤ maxLen) (htm : t.size ≤ maxLen) (hR : readyR σ.off [s, t] = code) (hc : code ≠ 0) :
    Calls Try.prog 14 #[.pointer (some ⟨d, 0, none⟩), .string s, .string t] w fun e w' => e = .returned (.int .i64 code) ∧ Fr (fun _ => False) w w' := by
  obtain ⟨W0, hW0⟩ : ∃ W0, w.alloc (.cells #[.string s, .string t] 9) = W0 := ⟨_, rfl⟩
  have hf0 : Fr (fun _ => False) w W0 := by rw [← hW0]; exact Fr.alloc w _ _
  have h0 := h.keep hf0
  have hN0 : Cel W0 w.heap.size 9 #[.string s, .string t] := by rw [← hW0]; exact heap_alloc_new w _
  have hrdy : Calls Try.prog 37 #[.pointer (some ⟨d, 0, none⟩), .slice (some ⟨w.heap.size, 0, none⟩) 2 2] W0 fun e w' => e = .returned (.int .i64 code) ∧ W0 = w' := by
    have := ready_any σ.mn σ.ms σ.un σ.us σ.room σ.fuse σ.steps σ.pv σ.off W0 d [s, t] (some ⟨w.heap.size, 0, none⟩) 2 h0.cel (.inr ⟨_, 0, rfl, fun i x hi => by
      match i, hi with
      | 0, hi => simp at hi; subst hi; exact hN0.cell 0
      | 1, hi => simp at hi; subst hi; exact hN0.cell 1
      | i + 2, hi => simp at hi⟩) (by simp) (fun x hx => by
        simp at hx
        rcases hx with rfl | rfl
        · exact hsm
        · exact htm)
    rw [hR] at this
    exact this
  have t0 : (code == 0) = false := by simpa using hc
  have t1 : (code != 0) = true := by simpa using hc
  have HR := Lib.hid hrdy
  have HW := Lib.hid hW0
  clear hrdy hW0 hR hc
  go_enter Try.func14, Try.ntmps14
  go_wp2_with fail
  rw [HW.out]
  refine HR.out.mono ?_
  rintro e w' ⟨rfl, rfl⟩
  go_wp2
  go_ret
  exact ⟨rfl, hf0⟩

theorem Read_bad (w : World) (d B : Nat) (σ : Dv) (s : ByteArray) (code : Int) (h : DInv w d B σ) (hsm : s.size ≤ maxLen) (hR : readyR σ.off [s] = code) (hc : code ≠ 0) :
    Calls Try.prog 17 #[.pointer (some ⟨d, 0, none⟩), .string s] w fun e w' => e = .returned (.tuple #[.slice none 0 0, .int .i64 code]) ∧ Fr (fun _ => False) w w' := by
  obtain ⟨W0, hW0⟩ : ∃ W0, w.alloc (.cells #[.string s] 9) = W0 := ⟨_, rfl⟩
  have hf0 : Fr (fun _ => False) w W0 := by rw [← hW0]; exact Fr.alloc w _ _
  have h0 := h.keep hf0
  have hN0 : Cel W0 w.heap.size 9 #[.string s] := by rw [← hW0]; exact heap_alloc_new w _
  have hrdy : Calls Try.prog 37 #[.pointer (some ⟨d, 0, none⟩), .slice (some ⟨w.heap.size, 0, none⟩) 1 1] W0 fun e w' => e = .returned (.int .i64 code) ∧ W0 = w' := by
    have := ready_any σ.mn σ.ms σ.un σ.us σ.room σ.fuse σ.steps σ.pv σ.off W0 d [s] (some ⟨w.heap.size, 0, none⟩) 1 h0.cel (.inr ⟨_, 0, rfl, fun i x hi => by
      match i, hi with
      | 0, hi => simp at hi; subst hi; exact hN0.cell 0
      | i + 1, hi => simp at hi⟩) (by simp) (fun x hx => by simp at hx; subst hx; exact hsm)
    rw [hR] at this
    exact this
  have t0 : (code == 0) = false := by simpa using hc
  have t1 : (code != 0) = true := by simpa using hc
  have HR := Lib.hid hrdy
  have HW := Lib.hid hW0
  clear hrdy hW0 hR hc
  go_enter Try.func17, Try.ntmps17
  go_wp2_with fail
  rw [HW.out]
  refine HR.out.mono ?_
  rintro e w' ⟨rfl, rfl⟩
  go_wp2
  go_ret2
  exact ⟨rfl, hf0⟩

theorem Drop_none (w : World) (d B : Nat) (σ : Dv) (s : ByteArray) (h : DInv w d B σ) (hsm : s.size ≤ maxLen) (hR : readyR σ.off [s] = 0) (hp : σ.S (.now s) = none) :
    Calls Try.prog 15 #[.pointer (some ⟨d, 0, none⟩), .string s] w fun e w' => e = .returned (.int .i64 4) ∧ Fr (fun _ => False) w w' := by
  obtain ⟨W0, hW0⟩ : ∃ W0, w.alloc (.cells #[.string s] 9) = W0 := ⟨_, rfl⟩
  have hf0 : Fr (fun _ => False) w W0 := by rw [← hW0]; exact Fr.alloc w _ _
  have h0 := h.keep hf0
  have hN0 : Cel W0 w.heap.size 9 #[.string s] := by rw [← hW0]; exact heap_alloc_new w _
  have hrdy : Calls Try.prog 37 #[.pointer (some ⟨d, 0, none⟩), .slice (some ⟨w.heap.size, 0, none⟩) 1 1] W0 fun e w' => e = .returned (.int .i64 0) ∧ W0 = w' := by
    have := ready_any σ.mn σ.ms σ.un σ.us σ.room σ.fuse σ.steps σ.pv σ.off W0 d [s] (some ⟨w.heap.size, 0, none⟩) 1 h0.cel (.inr ⟨_, 0, rfl, fun i x hi => by
      match i, hi with
      | 0, hi => simp at hi; subst hi; exact hN0.cell 0
      | i + 1, hi => simp at hi⟩) (by simp) (fun x hx => by simp at hx; subst hx; exact hsm)
    rw [hR] at this
    exact this
  have hhas := has_any W0 d 0 75 σ.cells σ.mn σ.nn (vnow σ.S) s h0.cel rfl h0.fn hsm
  have hno : (vnow σ.S s).isSome = false := by unfold vnow; rw [hp]; rfl
  rw [hno] at hhas
  have HR := Lib.hid hrdy
  have HH := Lib.hid hhas
  have HW := Lib.hid hW0
  clear hrdy hW0 hR hhas hno hp
  go_enter Try.func15, Try.ntmps15
  go_wp2_with fail
  rw [HW.out]
  refine HR.out.mono ?_
  rintro e w' ⟨rfl, rfl⟩
  go_wp2_with fail
  refine HH.out.mono ?_
  rintro e w' ⟨rfl, rfl⟩
  go_wp2
  go_ret
  exact ⟨rfl, hf0⟩

theorem Move_none (w : World) (d B : Nat) (σ : Dv) (s t : ByteArray) (h : DInv w d B σ) (hsm : s.size ≤ maxLen) (htm : t.size ≤ maxLen) (hR : readyR σ.off [s, t] = 0) (hp : σ.S (.now s) = none) :
    Calls Try.prog 14 #[.pointer (some ⟨d, 0, none⟩), .string s, .string t] w fun e w' => e = .returned (.int .i64 4) ∧ Fr (fun _ => False) w w' := by
  obtain ⟨W0, hW0⟩ : ∃ W0, w.alloc (.cells #[.string s, .string t] 9) = W0 := ⟨_, rfl⟩
  have hf0 : Fr (fun _ => False) w W0 := by rw [← hW0]; exact Fr.alloc w _ _
  have h0 := h.keep hf0
  have hN0 : Cel W0 w.heap.size 9 #[.string s, .string t] := by rw [← hW0]; exact heap_alloc_new w _
  have hrdy : Calls Try.prog 37 #[.pointer (some ⟨d, 0, none⟩), .slice (some ⟨w.heap.size, 0, none⟩) 2 2] W0 fun e w' => e = .returned (.int .i64 0) ∧ W0 = w' := by
    have := ready_any σ.mn σ.ms σ.un σ.us σ.room σ.fuse σ.steps σ.pv σ.off W0 d [s, t] (some ⟨w.heap.size, 0, none⟩) 2 h0.cel (.inr ⟨_, 0, rfl, fun i x hi => by
      match i, hi with
      | 0, hi => simp at hi; subst hi; exact hN0.cell 0
      | 1, hi => simp at hi; subst hi; exact hN0.cell 1
      | i + 2, hi => simp at hi⟩) (by simp) (fun x hx => by
        simp at hx
        rcases hx with rfl | rfl
        · exact hsm
        · exact htm)
    rw [hR] at this
    exact this
  have hhas := has_any W0 d 0 75 σ.cells σ.mn σ.nn (vnow σ.S) s h0.cel rfl h0.fn hsm
  have hno : (vnow σ.S s).isSome = false := by unfold vnow; rw [hp]; rfl
  rw [hno] at hhas
  have HR := Lib.hid hrdy
  have HH := Lib.hid hhas
  have HW := Lib.hid hW0
  clear hrdy hW0 hR hhas hno hp
  go_enter Try.func14, Try.ntmps14
  go_wp2_with fail
  rw [HW.out]
  refine HR.out.mono ?_
  rintro e w' ⟨rfl, rfl⟩
  go_wp2_with fail
  refine HH.out.mono ?_
  rintro e w' ⟨rfl, rfl⟩
  go_wp2
  go_ret
  exact ⟨rfl, hf0⟩

theorem Read_none (w : World) (d B : Nat) (σ : Dv) (s : ByteArray) (h : DInv w d B σ) (hsm : s.size ≤ maxLen) (hR : readyR σ.off [s] = 0) (hp : σ.S (.now s) = none) :
    Calls Try.prog 17 #[.pointer (some ⟨d, 0, none⟩), .string s] w fun e w' => e = .returned (.tuple #[.slice none 0 0, .int .i64 4]) ∧ Fr (fun _ => False) w w' := by
  obtain ⟨W0, hW0⟩ : ∃ W0, w.alloc (.cells #[.string s] 9) = W0 := ⟨_, rfl⟩
  have hf0 : Fr (fun _ => False) w W0 := by rw [← hW0]; exact Fr.alloc w _ _
  have h0 := h.keep hf0
  have hN0 : Cel W0 w.heap.size 9 #[.string s] := by rw [← hW0]; exact heap_alloc_new w _
  have hrdy : Calls Try.prog 37 #[.pointer (some ⟨d, 0, none⟩), .slice (some ⟨w.heap.size, 0, none⟩) 1 1] W0 fun e w' => e = .returned (.int .i64 0) ∧ W0 = w' := by
    have := ready_any σ.mn σ.ms σ.un σ.us σ.room σ.fuse σ.steps σ.pv σ.off W0 d [s] (some ⟨w.heap.size, 0, none⟩) 1 h0.cel (.inr ⟨_, 0, rfl, fun i x hi => by
      match i, hi with
      | 0, hi => simp at hi; subst hi; exact hN0.cell 0
      | i + 1, hi => simp at hi⟩) (by simp) (fun x hx => by simp at hx; subst hx; exact hsm)
    rw [hR] at this
    exact this
  have hhas := has_any W0 d 0 75 σ.cells σ.mn σ.nn (vnow σ.S) s h0.cel rfl h0.fn hsm
  have hno : (vnow σ.S s).isSome = false := by unfold vnow; rw [hp]; rfl
  rw [hno] at hhas
  have HR := Lib.hid hrdy
  have HH := Lib.hid hhas
  have HW := Lib.hid hW0
  clear hrdy hW0 hR hhas hno hp
  go_enter Try.func17, Try.ntmps17
  go_wp2_with fail
  rw [HW.out]
  refine HR.out.mono ?_
  rintro e w' ⟨rfl, rfl⟩
  go_wp2_with fail
  refine HH.out.mono ?_
  rintro e w' ⟨rfl, rfl⟩
  go_wp2
  go_ret2
  exact ⟨rfl, hf0⟩

end Go.Proofs.Ytbdmlenapccdnaa
namespace Go.Proofs.Ytbdmlenapccdnaa
open Go.RowKit

set_option maxRecDepth 100000 in
set_option maxHeartbeats 1000000 in
theorem Write_full (w : World) (d B : Nat) (σ : Dv) (s : ByteArray) (A0 : Option Addr) (nb cap0 : Nat) (h : DInv w d B σ) (hs : Dx.name s = true) (hoff : σ.off = false)
    (hu : 0 ≤ σ.un ∧ σ.un ≤ σ.room ∧ σ.room ≤ 1000000000) (hfull : σ.room - σ.un < nb) (hn : σ.nn < 2000) :
    Calls Try.prog 13 #[.pointer (some ⟨d, 0, none⟩), .string s, .slice A0 nb cap0] w fun e w' => e = .returned (.int .i64 11) ∧ Fr (fun _ => False) w w' := by
  have hsz := name_size hs
  have hsm : s.size ≤ maxLen := by unfold maxLen; omega
  obtain ⟨W0, hW0⟩ : ∃ W0, w.alloc (.cells #[.string s] 9) = W0 := ⟨_, rfl⟩
  have hf0 : Fr (fun _ => False) w W0 := by rw [← hW0]; exact Fr.alloc w _ _
  have h0 := h.keep hf0
  have hN0 : Cel W0 w.heap.size 9 #[.string s] := by rw [← hW0]; exact heap_alloc_new w _
  have hrdy : Calls Try.prog 37 #[.pointer (some ⟨d, 0, none⟩), .slice (some ⟨w.heap.size, 0, none⟩) 1 1] W0 fun e w' => e = .returned (.int .i64 0) ∧ W0 = w' := by
    have := ready_any σ.mn σ.ms σ.un σ.us σ.room σ.fuse σ.steps σ.pv σ.off W0 d [s] (some ⟨w.heap.size, 0, none⟩) 1 h0.cel (.inr ⟨_, 0, rfl, fun i x hi => by
      match i, hi with
      | 0, hi => simp at hi; subst hi; exact hN0.cell 0
      | i + 1, hi => simp at hi⟩) (by simp) (fun x hx => by simp at hx; subst hx; exact hsm)
    simp only [readyR, List.all_cons, hs, List.all_nil, Bool.and_true, hoff, if_true] at this
    exact this
  have hhas := has_any W0 d 0 75 σ.cells σ.mn σ.nn (vnow σ.S) s h0.cel rfl h0.fn hsm
  obtain ⟨lk, hlk, hlen⟩ := h0.fn.len W0 (fun _ _ => rfl) 3
  have c0 := (h0.cel.cell 0).trans dc0
  have HR := Lib.hid hrdy
  have HH := Lib.hid hhas
  have HW := Lib.hid hW0
  have tl : decide ((2000 : Int) ≤ (lk : Int)) = false := by simp; omega
  have tl2 : decide ((lk : Int) ≥ 2000) = false := by simp; omega
  clear hrdy hhas hW0 hoff
  go_enter Try.func13, Try.ntmps13
  go_wp2_with fail
  rw [HW.out]
  refine HR.out.mono ?_
  rintro e w' ⟨rfl, rfl⟩
  go_wp2_with fail
  refine HH.out.mono ?_
  rintro e w' ⟨rfl, rfl⟩
  cases hsome : (vnow σ.S s).isSome
  all_goals
    go_wp2_with fail
    refine (Free_any σ.mn σ.ms σ.un σ.us σ.room σ.fuse σ.steps σ.pv σ.off W0 d h0.cel (by omega) hu.2.2).mono ?_
    rintro e w' ⟨rfl, n1, rfl⟩
    have hcmp : decide ((σ.room - σ.un : Int) < (nb : Int)) = true := by simp; omega
    go_wp2
    go_ret
    exact ⟨rfl, hf0.trans (Fr.drewN W0 n1 _)⟩

end Go.Proofs.Ytbdmlenapccdnaa
namespace Go.Proofs.Ytbdmlenapccdnaa
open Go.RowKit

def fresh (room : Int) : Dv := ⟨fun _ => none, none, none, 0, 0, 0, 0, room, 0, 0, nilS, false, []⟩
theorem DInv_fresh {w : World} {d B : Nat} {room : Int} (h : Cel w d 75 (dc none 0 none 0 nilS room 0 0 false)) : DInv w d B (fresh room) :=
  ⟨h, .inl ⟨rfl, rfl⟩, .inl ⟨rfl, rfl⟩, ⟨fun _ _ _ e => (by cases e), fun _ _ _ _ _ _ _ _ e => (by cases e)⟩, fun _ e => (by cases e), World.ownsRow_nil w B 82 4, fun _ _ e => (by simp [fresh] at e), fun _ _ => rfl⟩

end Go.Proofs.Ytbdmlenapccdnaa
namespace Go.Proofs.Ytbdmlenapccdnaa
open Go.RowKit

abbrev Fl := List (ByteArray × List Int)
def bl (x y : ByteArray) : Prop := x.data.toList < y.data.toList
instance (x y : ByteArray) : Decidable (bl x y) := inferInstanceAs (Decidable (x.data.toList < y.data.toList))
theorem bl_irr (x : ByteArray) : ¬ bl x x := fun h => List.lt_irrefl _ h
theorem bl_trans {x y z : ByteArray} (h : bl x y) (h' : bl y z) : bl x z := List.lt_trans h h'
theorem bl_tri {x y : ByteArray} (h : ¬ bl x y) (h' : x ≠ y) : bl y x := by
  rcases (List.le_total x.data.toList y.data.toList) with hl | hl
  · exact absurd (List.le_antisymm hl (List.not_lt.1 h)) (fun e => h' (ByteArray.ext (Array.toList_inj.1 e)))
  · by_cases hb : bl y x
    · exact hb
    · exact absurd (List.le_antisymm (List.not_lt.1 hb) (List.not_lt.1 h)) (fun e => h' (ByteArray.ext (Array.toList_inj.1 e)))
theorem bl_ne {x y : ByteArray} (h : bl x y) : x ≠ y := by rintro rfl; exact bl_irr _ h
theorem bl_asym {x y : ByteArray} (h : bl x y) : ¬ bl y x := fun h' => bl_irr _ (bl_trans h h')

/-- in order, each name once -/
def Srt (L : Fl) : Prop := L.Pairwise (fun a b => bl a.1 b.1)
def lk : Fl → ByteArray → Option (List Int)
  | [], _ => none
  | (y, c) :: L, x => if bl y x then lk L x else if y = x then some c else none
def put : Fl → ByteArray → List Int → Fl
  | [], x, b => [(x, b)]
  | (y, c) :: L, x, b => if bl y x then (y, c) :: put L x b else if y = x then (x, b) :: L else (x, b) :: (y, c) :: L
def del : Fl → ByteArray → Fl
  | [], _ => []
  | (y, c) :: L, x => if bl y x then (y, c) :: del L x else if y = x then L else (y, c) :: L
def used : Fl → Nat
  | [] => 0
  | (_, c) :: L => c.length + used L

theorem lk_lt : ∀ {L : Fl} {x : ByteArray}, (∀ a ∈ L, bl x a.1) → lk L x = none
  | [], _, _ => rfl
  | (y, c) :: L, x, h => by
    have h1 : bl x y := h (y, c) (by simp)
    simp only [lk]
    rw [if_neg (bl_asym h1), if_neg (fun e => bl_ne h1 e.symm)]
theorem lk_mem : ∀ {L : Fl} {x : ByteArray} {c : List Int}, lk L x = some c → (x, c) ∈ L
  | [], _, _, h => by cases h
  | (y, d) :: L, x, c, h => by
    simp only [lk] at h
    split at h
    · exact List.mem_cons_of_mem _ (lk_mem h)
    · split at h
      · rename_i e; cases h; cases e; exact List.mem_cons_self
      · cases h
theorem Srt.tail {a : ByteArray × List Int} {L : Fl} (h : Srt (a :: L)) : Srt L := (List.pairwise_cons.1 h).2
theorem Srt.head {a : ByteArray × List Int} {L : Fl} (h : Srt (a :: L)) : ∀ b ∈ L, bl a.1 b.1 := (List.pairwise_cons.1 h).1
theorem mem_lk : ∀ {L : Fl} {x : ByteArray} {c : List Int}, Srt L → (x, c) ∈ L → lk L x = some c
  | [], _, _, _, h => by cases h
  | (y, d) :: L, x, c, hs, h => by
    simp only [lk]
    rcases List.mem_cons.1 h with e | h
    · cases e
      rw [if_neg (bl_irr _), if_pos rfl]
    · rw [if_pos (hs.head _ h)]
      exact mem_lk hs.tail h

theorem mem_put : ∀ {L : Fl} {x : ByteArray} {b : List Int} {a : ByteArray × List Int}, a ∈ put L x b → a = (x, b) ∨ a ∈ L
  | [], x, b, a, h => by simp [put] at h; exact .inl h
  | (y, c) :: L, x, b, a, h => by
    simp only [put] at h
    split at h
    · rcases List.mem_cons.1 h with h | h
      · exact .inr (by rw [h]; exact List.mem_cons_self)
      · exact (mem_put h).imp id (List.mem_cons_of_mem _)
    · split at h
      · rcases List.mem_cons.1 h with h | h
        · exact .inl h
        · exact .inr (List.mem_cons_of_mem _ h)
      · rcases List.mem_cons.1 h with h | h
        · exact .inl h
        · exact .inr h
theorem mem_del : ∀ {L : Fl} {x : ByteArray} {a : ByteArray × List Int}, a ∈ del L x → a ∈ L
  | [], x, a, h => h
  | (y, c) :: L, x, a, h => by
    simp only [del] at h
    split at h
    · rcases List.mem_cons.1 h with h | h
      · rw [h]; exact List.mem_cons_self
      · exact List.mem_cons_of_mem _ (mem_del h)
    · split at h
      · exact List.mem_cons_of_mem _ h
      · exact h
theorem Srt.put : ∀ {L : Fl} {x : ByteArray} {b : List Int}, Srt L → Srt (put L x b)
  | [], x, b, _ => by simp [Srt, Proofs.Ytbdmlenapccdnaa.put]
  | (y, c) :: L, x, b, h => by
    simp only [Proofs.Ytbdmlenapccdnaa.put]
    split
    · rename_i hb
      refine List.pairwise_cons.2 ⟨fun a ha => ?_, h.tail.put⟩
      rcases mem_put ha with e | ha
      · rw [e]; exact hb
      · exact h.head a ha
    · split
      · rename_i e
        cases e
        exact List.pairwise_cons.2 ⟨fun a ha => h.head a ha, h.tail⟩
      · rename_i hb e
        have hb' := bl_tri hb e
        refine List.pairwise_cons.2 ⟨fun a ha => ?_, h⟩
        rcases List.mem_cons.1 ha with e' | ha
        · rw [e']; exact hb'
        · exact bl_trans hb' (h.head a ha)
theorem Srt.del : ∀ {L : Fl} {x : ByteArray}, Srt L → Srt (del L x)
  | [], x, h => h
  | (y, c) :: L, x, h => by
    simp only [Proofs.Ytbdmlenapccdnaa.del]
    split
    · exact List.pairwise_cons.2 ⟨fun a ha => h.head a (mem_del ha), h.tail.del⟩
    · split
      · exact h.tail
      · exact h
theorem lk_put : ∀ {L : Fl} {x : ByteArray} {b : List Int}, Srt L → ∀ z, lk (put L x b) z = if z = x then some b else lk L z
  | [], x, b, _, z => by
    simp only [put, lk]
    by_cases e : z = x
    · subst e; simp [bl_irr]
    · rw [if_neg e]
      have e' : ¬ x = z := fun h => e h.symm
      simp [e']
  | (y, c) :: L, x, b, h, z => by
    simp only [put]
    split
    · rename_i hb
      simp only [lk]
      by_cases hz : bl y z
      · rw [if_pos hz, if_pos hz]
        exact lk_put h.tail z
      · rw [if_neg hz, if_neg hz]
        by_cases e : z = x
        · subst e; exact absurd hb hz
        · rw [if_neg e]
    · split
      · rename_i hb e
        subst e
        simp only [lk]
        by_cases e : z = y
        · subst e; simp [bl_irr]
        · rw [if_neg e]
          have e' : ¬ y = z := fun h => e h.symm
          simp only [if_neg e']
      · rename_i hb e
        have hb' := bl_tri hb e
        simp only [lk]
        by_cases e : z = x
        · subst e; simp [bl_irr]
        · rw [if_neg e]
          by_cases hz : bl x z
          · rw [if_pos hz]
          · rw [if_neg hz, if_neg (fun h => e h.symm)]
            have h1 := bl_tri hz (fun h => e h.symm)
            have h2 := bl_trans h1 hb'
            rw [if_neg (bl_asym h2), if_neg (fun h => bl_ne h2 h.symm)]
theorem lk_del : ∀ {L : Fl} {x : ByteArray}, Srt L → ∀ z, lk (del L x) z = if z = x then none else lk L z
  | [], x, _, z => by simp [del, lk]
  | (y, c) :: L, x, h, z => by
    simp only [del]
    split
    · rename_i hb
      simp only [lk]
      by_cases hz : bl y z
      · rw [if_pos hz, if_pos hz]
        exact lk_del h.tail z
      · rw [if_neg hz, if_neg hz]
        by_cases e : z = x
        · subst e; exact absurd hb hz
        · rw [if_neg e]
    · split
      · rename_i hb e
        subst e
        by_cases e : z = y
        · subst e
          rw [if_pos rfl]
          exact lk_lt h.head
        · rw [if_neg e]
          simp only [lk]
          by_cases hz : bl y z
          · rw [if_pos hz]
          · rw [if_neg hz, if_neg (fun h => e h.symm)]
            have h1 := bl_tri hz (fun h => e h.symm)
            exact lk_lt (fun a ha => bl_trans h1 (h.head a ha))
      · rename_i hb e
        have hb' := bl_tri hb e
        by_cases e : z = x
        · subst e
          rw [if_pos rfl]
          simp only [lk]
          rw [if_neg hb, if_neg (fun h => bl_ne hb' h.symm)]
        · rw [if_neg e]
theorem used_put : ∀ (L : Fl) (x : ByteArray) (b : List Int), used (put L x b) + ((lk L x).getD []).length = used L + b.length
  | [], x, b => by simp [put, used, lk]
  | (y, c) :: L, x, b => by
    simp only [put, lk]
    split
    · have := used_put L x b
      simp only [used]
      omega
    · split
      · rename_i e; cases e
        simp only [used, Option.getD_some]
        omega
      · simp only [used, Option.getD_none, List.length_nil]
        omega
theorem used_del : ∀ (L : Fl) (x : ByteArray), used (del L x) + ((lk L x).getD []).length = used L
  | [], x => by simp [del, used, lk]
  | (y, c) :: L, x => by
    simp only [del, lk]
    split
    · have := used_del L x
      simp only [used]
      omega
    · split
      · simp only [used, Option.getD_some]
        omega
      · simp only [used, Option.getD_none, List.length_nil]
        omega
theorem lk_used : ∀ (L : Fl) (x : ByteArray), ((lk L x).getD []).length ≤ used L
  | L, x => by have := used_del L x; omega
theorem len_put : ∀ (L : Fl) (x : ByteArray) (b : List Int), (put L x b).length ≤ L.length + 1
  | [], x, b => by simp [put]
  | (y, c) :: L, x, b => by
    simp only [put]
    have := len_put L x b
    split
    · simp only [List.length_cons]; omega
    · split <;> simp
theorem len_del : ∀ (L : Fl) (x : ByteArray), (del L x).length ≤ L.length
  | [], x => by simp [del]
  | (y, c) :: L, x => by
    simp only [del]
    have := len_del L x
    split
    · simp only [List.length_cons]; omega
    · split <;> simp
theorem Srt.ext : ∀ {L M : Fl}, Srt L → Srt M → (∀ x, lk L x = lk M x) → L = M
  | [], [], _, _, _ => rfl
  | [], (y, c) :: M, _, hM, h => by
    have := h y
    simp [lk, bl_irr] at this
  | (y, c) :: L, [], _, hM, h => by
    have := h y
    simp [lk, bl_irr] at this
  | (y, c) :: L, (z, d) :: M, hL, hM, h => by
    have hyz : y = z := by
      by_cases e : y = z
      · exact e
      · exfalso
        by_cases hb : bl y z
        · have := h y
          simp [lk, bl_irr, bl_asym hb] at this
          exact e this.1.symm
        · have hb' := bl_tri hb e
          have := h z
          simp [lk, bl_irr, hb, e] at this
    subst hyz
    have hcd : c = d := by
      have := h y
      simpa [lk, bl_irr] using this
    subst hcd
    rw [Srt.ext hL.tail hM.tail (fun x => ?_)]
    have := h x
    simp only [lk] at this
    by_cases hb : bl y x
    · rw [if_pos hb, if_pos hb] at this
      exact this
    · have hn : ∀ N : Fl, Srt ((y, c) :: N) → lk N x = none := fun N hN => by
        by_cases e : y = x
        · subst e; exact lk_lt hN.head
        · exact lk_lt (fun a ha => bl_trans (bl_tri hb e) (hN.head a ha))
      rw [hn L hL, hn M hM]

/-- a change, plain -/
structure AC where
  k : Int
  s : ByteArray
  t : ByteArray
  data : List Int
def act (L : Fl) (c : AC) : Fl :=
  if c.k = 0 then put L c.s ((lk L c.s).getD [] ++ c.data)
  else if c.k = 1 then put (del L c.s) c.t ((lk L c.s).getD [])
  else del L c.s
/-- a change that can be done -/
def okA (L : Fl) (c : AC) : Prop := c.s.size ≤ 80 ∧ c.t.size ≤ 80 ∧ (c.k = 0 ∨ c.k = 1 ∧ c.s ≠ c.t ∧ lk L c.s ≠ none ∨ c.k = 2 ∧ lk L c.s ≠ none)
def acts (L : Fl) (cs : List AC) : Fl := cs.foldl act L
/-- changes that can be done one behind the other -/
def oks : Fl → List AC → Prop
  | _, [] => True
  | L, c :: cs => okA L c ∧ oks (act L c) cs
theorem Srt.act {L : Fl} (h : Srt L) (c : AC) : Srt (act L c) := by
  unfold Proofs.Ytbdmlenapccdnaa.act
  split
  · exact h.put
  · split
    · exact h.del.put
    · exact h.del
theorem Srt.acts : ∀ {L : Fl} (cs : List AC), Srt L → Srt (acts L cs)
  | _, [], h => h
  | L, c :: cs, h => Srt.acts (L := Proofs.Ytbdmlenapccdnaa.act L c) cs (h.act c)
theorem acts_append (L : Fl) (cs ds : List AC) : acts L (cs ++ ds) = acts (acts L cs) ds := by unfold acts; rw [List.foldl_append]
theorem oks_append : ∀ (L : Fl) (cs ds : List AC), oks L (cs ++ ds) ↔ oks L cs ∧ oks (acts L cs) ds
  | L, [], ds => by simp [oks, acts]
  | L, c :: cs, ds => by
    have := oks_append (act L c) cs ds
    simp only [List.cons_append, oks, this, and_assoc]
    rfl
theorem lk_act {L : Fl} (h : Srt L) (c : AC) (hc : c.k = 1 → c.s ≠ c.t) (z : ByteArray) : lk (act L c) z =
    if c.k = 0 then (if z = c.s then some ((lk L c.s).getD [] ++ c.data) else lk L z)
    else if c.k = 1 then (if z = c.s then none else if z = c.t then some ((lk L c.s).getD []) else lk L z)
    else (if z = c.s then none else lk L z) := by
  unfold act
  split
  · rw [lk_put h]
  · split
    · rename_i hk
      rw [lk_put h.del, lk_del h]
      have := hc hk
      by_cases e : z = c.s
      · subst e
        rw [if_neg this, if_pos rfl, if_pos rfl]
      · rw [if_neg e, if_neg e]
    · rw [lk_del h]

end Go.Proofs.Ytbdmlenapccdnaa
namespace Go.Proofs.Ytbdmlenapccdnaa
open Go.RowKit

structure Ab where
  now : Fl
  safe : Fl
  pend : List AC
  room : Int
  fuse : Int
  steps : Int
  off : Bool

/-- changes that can be done one behind the other, with room -/
def okR (R : Int) : Fl → List AC → Prop
  | _, [] => True
  | L, c :: cs => okA L c ∧ (used (act L c) : Int) ≤ R ∧ okR R (act L c) cs
theorem okR_append (R : Int) : ∀ (L : Fl) (cs ds : List AC), okR R L (cs ++ ds) ↔ okR R L cs ∧ okR R (acts L cs) ds
  | L, [], ds => by simp [okR, acts]
  | L, c :: cs, ds => by
    have := okR_append R (act L c) cs ds
    simp only [List.cons_append, okR, this, and_assoc]
    rfl
theorem take_succ {α : Type} {l : List α} {i : Nat} {a : α} (h : l[i]? = some a) : l.take (i + 1) = l.take i ++ [a] := by
  rw [List.take_add_one, h]; rfl
theorem okR_take (R : Int) {L : Fl} {cs : List AC} (h : okR R L cs) (i : Nat) : okR R L (cs.take i) := by
  rw [← List.take_append_drop i cs, okR_append] at h
  exact h.1
theorem okR_at (R : Int) {L : Fl} {cs : List AC} (h : okR R L cs) {i : Nat} {a : AC} (ha : cs[i]? = some a) : okA (acts L (cs.take i)) a ∧ (used (act (acts L (cs.take i)) a) : Int) ≤ R := by
  have h1 := okR_take R h (i + 1)
  rw [take_succ ha, okR_append] at h1
  exact ⟨h1.2.1, h1.2.2.1⟩
theorem acts_take {L : Fl} {cs : List AC} {i : Nat} {a : AC} (ha : cs[i]? = some a) : acts L (cs.take (i + 1)) = act (acts L (cs.take i)) a := by
  rw [take_succ ha, acts_append]; rfl
theorem used_take (R : Int) {L : Fl} (hL : (used L : Int) ≤ R) {cs : List AC} (h : okR R L cs) : ∀ i, i ≤ cs.length → (used (acts L (cs.take i)) : Int) ≤ R
  | 0, _ => by simpa [acts] using hL
  | i + 1, hi => by
    have hlt : i < cs.length := by omega
    have ha : cs[i]? = some cs[i] := List.getElem?_eq_getElem hlt
    rw [acts_take ha]
    exact (okR_at R h ha).2

theorem okA.ne {M : Fl} {a : AC} (h : okA M a) (e : a.k = 1) : a.s ≠ a.t := by
  rcases h.2.2 with h | ⟨_, h, _⟩ | ⟨h, _⟩
  · omega
  · exact h
  · omega
theorem doC_act {M : Fl} (h : Srt M) {c : Ch} {a : AC} (hk : c.k = a.k) (hs : c.s = a.s) (ht : c.t = a.t) (ho : okA M a) : doC (lk M) c a.data = lk (act M a) := by
  funext z
  rw [lk_act h a ho.ne]
  unfold doC
  rw [hk, hs, ht]
  by_cases h0 : a.k = 0
  · simp only [if_pos h0]
  · by_cases h1 : a.k = 1
    · simp only [if_neg h0, if_pos h1]
      obtain ⟨l, hl⟩ : ∃ l, lk M a.s = some l := by
        rcases ho.2.2 with h | ⟨_, _, h⟩ | ⟨h, _⟩
        · omega
        · exact Option.ne_none_iff_exists'.1 h
        · omega
      rw [hl]
      rfl
    · simp only [if_neg h0, if_neg h1]
theorem doU_act {M : Fl} (h : Srt M) {c : Ch} {a : AC} (hk : c.k = a.k) (hs : c.s = a.s) (ht : c.t = a.t) (ho : okA M a) : doU (lk M) c a.data (used M) = used (act M a) := by
  unfold doU act
  rw [hk, hs, ht]
  by_cases h0 : a.k = 0
  · simp only [if_pos h0]
    have := used_put M a.s ((lk M a.s).getD [] ++ a.data)
    rw [List.length_append] at this
    omega
  · by_cases h1 : a.k = 1
    · simp only [if_neg h0, if_pos h1]
      have hst : a.s ≠ a.t := ho.ne h1
      have e1 := used_put (del M a.s) a.t ((lk M a.s).getD [])
      have e2 := used_del M a.s
      rw [lk_del h, if_neg (fun e => hst e.symm)] at e1
      omega
    · simp only [if_neg h0, if_neg h1]
      have := used_del M a.s
      omega

/-- the changes in memory are those -/
structure Chs (cs : List Ch) (D : Nat → List Int) (pend : List AC) : Prop where
  len : pend.length ≤ cs.length
  eq : ∀ i c a, cs[i]? = some c → pend[i]? = some a → c.k = a.k ∧ c.s = a.s ∧ c.t = a.t ∧ D i = a.data
theorem Chs.get {cs : List Ch} {D : Nat → List Int} {pend : List AC} (h : Chs cs D pend) {i : Nat} {c : Ch} (hlt : i < pend.length) (hc : cs[i]? = some c) : ∃ a, pend[i]? = some a ∧ c.k = a.k ∧ c.s = a.s ∧ c.t = a.t ∧ D i = a.data := by
  exact ⟨_, List.getElem?_eq_getElem hlt, h.eq i c _ hc (List.getElem?_eq_getElem hlt)⟩
theorem runC_acts {cs : List Ch} {D : Nat → List Int} {pend : List AC} (h : Chs cs D pend) {L : Fl} (hL : Srt L) {R : Int} (ho : okR R L pend) : ∀ i, i ≤ pend.length → runC cs D (lk L) (used L) i = (lk (acts L (pend.take i)), (used (acts L (pend.take i)) : Int))
  | 0, _ => by simp [runC, acts]
  | i + 1, hi => by
    have ih := runC_acts h hL ho i (by omega)
    have hlt : i < cs.length := by have := h.len; omega
    have hc : cs[i]? = some cs[i] := List.getElem?_eq_getElem hlt
    obtain ⟨a, ha, e1, e2, e3, e4⟩ := h.get (by omega) hc
    simp only [runC, hc]
    rw [ih, e4, acts_take ha]
    have hoa := (okR_at R ho ha).1
    have hS : Srt (acts L (pend.take i)) := hL.acts _
    simp only
    rw [doC_act hS e1 e2 e3 hoa, doU_act hS e1 e2 e3 hoa]
theorem okC_acts {cs : List Ch} {D : Nat → List Int} {pend : List AC} (h : Chs cs D pend) {L : Fl} (hL : Srt L) {R : Int} (hR : R ≤ 100000000) (hu : (used L : Int) ≤ R) (ho : okR R L pend) {i : Nat} {c : Ch} (hlt : i < pend.length) (hc : cs[i]? = some c) :
    okC (runC cs D (lk L) (used L) i).1 c (D i) ∧ 0 ≤ (runC cs D (lk L) (used L) i).2 ∧ (runC cs D (lk L) (used L) i).2 ≤ 1000000000000 := by
  obtain ⟨a, ha, e1, e2, e3, e4⟩ := h.get hlt hc
  rw [runC_acts h hL ho i (by omega)]
  have hS : Srt (acts L (pend.take i)) := hL.acts _
  obtain ⟨hoa, hua⟩ := okR_at R ho ha
  have hum := used_take R hu ho i (by omega)
  refine ⟨⟨?_, ?_, ?_⟩, by simp, by simp only; omega⟩
  · have := hoa.1; rw [e2]; unfold maxLen; omega
  · have := hoa.2.1; rw [e3]; unfold maxLen; omega
  · rw [e1, e2, e3, e4]
    rcases hoa.2.2 with h0 | ⟨h1, h2, h3⟩ | ⟨h1, h2⟩
    · refine .inl ⟨h0, ?_⟩
      have hh := lk_used (act (acts L (pend.take i)) a) a.s
      rw [lk_act hS a hoa.ne, if_pos h0, if_pos rfl, Option.getD_some, List.length_append] at hh
      simp only
      omega
    · refine .inr (.inl ⟨h1, h2, Option.ne_none_iff_exists'.1 h3, ?_⟩)
      have hh := lk_used (acts L (pend.take i)) a.t
      simp only
      omega
    · refine .inr (.inr ⟨h1, Option.ne_none_iff_exists'.1 h2, ?_⟩)
      have hh := lk_used (acts L (pend.take i)) a.s
      simp only
      omega

end Go.Proofs.Ytbdmlenapccdnaa
namespace Go.Proofs.Ytbdmlenapccdnaa
open Go.RowKit

/-- the data of a disk's changes -/
def Dof (σ : Dv) (i : Nat) : List Int := ((σ.S (.pend i)).map Prod.snd).getD []

structure Gd (w : World) (d m : Nat) (A : Ab) (σ : Dv) : Prop where
  inv : DInv w d 0 σ
  now : ∀ x, (σ.S (.now x)).map Prod.snd = lk A.now x
  safe : cont σ.S = lk A.safe
  cl : σ.cs.length = A.pend.length
  chs : Chs σ.cs (Dof σ) A.pend
  un : σ.un = used A.now
  us : σ.us = used A.safe
  room : σ.room = A.room
  fuse : σ.fuse = A.fuse
  steps : σ.steps = A.steps
  off : σ.off = A.off
  ss : Srt A.safe
  ok : okR A.room A.safe A.pend
  run : acts A.safe A.pend = A.now
  usf : (used A.safe : Int) ≤ A.room
  rm : A.room ≤ 16777216
  nn : σ.nn ≤ m
  ns : σ.ns + σ.cs.length ≤ m
  fz : 0 ≤ A.fuse ∧ A.fuse ≤ 9223372036854775807
  st : 0 ≤ A.steps ∧ A.steps ≤ m

/-- what a call turns: the disk's own blocks, and new ones -/
structure Thn (w : World) (d : Nat) (σ : Dv) (w' : World) (σ' : Dv) : Prop where
  fr : Fr (foot d σ) w w'
  ft : ∀ k, foot d σ' k → foot d σ k ∨ w.heap.size ≤ k
theorem Thn.refl (w : World) (d : Nat) (σ : Dv) : Thn w d σ w σ := ⟨Fr.refl _ _, fun _ h => .inl h⟩
theorem Thn.trans {w w1 w2 : World} {d : Nat} {σ σ1 σ2 : Dv} (h : Thn w d σ w1 σ1) (h' : Thn w1 d σ1 w2 σ2) : Thn w d σ w2 σ2 :=
  ⟨h.fr.then h'.fr h.ft, fun k hk => by
    rcases h'.ft k hk with hk | hk
    · exact h.ft k hk
    · exact .inr (Nat.le_trans h.fr.size hk)⟩

theorem Gd.sn {w : World} {d m : Nat} {A : Ab} {σ : Dv} (h : Gd w d m A σ) : Srt A.now := by rw [← h.run]; exact h.ss.acts _
theorem Gd.unr {w : World} {d m : Nat} {A : Ab} {σ : Dv} (h : Gd w d m A σ) : (used A.now : Int) ≤ A.room := by
  have := used_take A.room h.usf h.ok A.pend.length (Nat.le_refl _)
  rw [List.take_length, h.run] at this
  exact this
theorem Gd.pd {w : World} {d m : Nat} {A : Ab} {σ : Dv} (h : Gd w d m A σ) : ∀ i c, σ.cs[i]? = some c → σ.S (.pend i) = some (.slice c.A c.n c.c, Dof σ i) := by
  intro i c hc
  obtain ⟨l, e, _⟩ := h.inv.pend i c hc
  unfold Dof
  rw [e]
  rfl
theorem Gd.keep {w w' : World} {d m : Nat} {A : Ab} {σ : Dv} (h : Gd w d m A σ) (hf : Fr (fun _ => False) w w') : Gd w' d m A σ :=
  ⟨h.inv.keep hf, h.now, h.safe, h.cl, h.chs, h.un, h.us, h.room, h.fuse, h.steps, h.off, h.ss, h.ok, h.run, h.usf, h.rm, h.nn, h.ns, h.fz, h.st⟩
theorem Gd.more {w : World} {d m : Nat} {A : Ab} {σ : Dv} (h : Gd w d m A σ) : Gd w d (m + 1) A σ :=
  ⟨h.inv, h.now, h.safe, h.cl, h.chs, h.un, h.us, h.room, h.fuse, h.steps, h.off, h.ss, h.ok, h.run, h.usf, h.rm, Nat.le_succ_of_le h.nn, Nat.le_succ_of_le h.ns, h.fz, ⟨h.st.1, by have := h.st.2; omega⟩⟩
/-- the now of a name -/
theorem Gd.getN {w : World} {d m : Nat} {A : Ab} {σ : Dv} (h : Gd w d m A σ) (x : ByteArray) : ∃ v, (σ.S (.now x)).getD (nilS, []) = (v, (lk A.now x).getD []) := by
  rw [← h.now x]
  cases σ.S (.now x) with
  | none => exact ⟨nilS, rfl⟩
  | some y => exact ⟨y.1, rfl⟩
theorem Gd.someN {w : World} {d m : Nat} {A : Ab} {σ : Dv} (h : Gd w d m A σ) {x : ByteArray} {l : List Int} (e : lk A.now x = some l) : ∃ v, σ.S (.now x) = some (v, l) := by
  rw [← h.now x] at e
  cases hS : σ.S (.now x) with
  | none => rw [hS] at e; cases e
  | some y => rw [hS] at e; cases e; exact ⟨y.1, rfl⟩
theorem Gd.noneN {w : World} {d m : Nat} {A : Ab} {σ : Dv} (h : Gd w d m A σ) {x : ByteArray} (e : lk A.now x = none) : σ.S (.now x) = none := by
  rw [← h.now x] at e
  cases hS : σ.S (.now x) with
  | none => rfl
  | some y => rw [hS] at e; cases e

/-- a step, unless the power fails at it -/
def stpA (A : Ab) : Ab := if A.fuse = 1 then { A with fuse := 0, off := true } else { A with fuse := max (A.fuse - 1) 0, steps := A.steps + 1 }
def stpC (A : Ab) : Int := if A.fuse = 1 then 10 else 0
def chgA (A : Ab) (c : AC) : Ab := { stpA A with now := act A.now c, pend := A.pend ++ [c] }
theorem stpA_rest (A : Ab) : (stpA A).now = A.now ∧ (stpA A).safe = A.safe ∧ (stpA A).pend = A.pend ∧ (stpA A).room = A.room := by
  unfold stpA
  split <;> simp
theorem Gd.stepped {w : World} {d m : Nat} {A : Ab} {σ : Dv} (h : Gd w d m A σ) : (0 ≤ (stpA A).fuse ∧ (stpA A).fuse ≤ 9223372036854775807) ∧ (0 ≤ (stpA A).steps ∧ (stpA A).steps ≤ (m + 1 : Nat)) := by
  have := h.fz
  have := h.st
  unfold stpA
  split
  · simp only; omega
  · simp only; omega

theorem Gd.step {w : World} {d m : Nat} {A : Ab} {σ : Dv} (h : Gd w d m A σ) (hoff : A.off = false) (hm : m ≤ 1000000) (w3 : World) (pv' : Value) (mn : Option Nat) (un : Int) (hC : Cel w3 d 75 (dc mn un σ.ms σ.us pv' σ.room σ.fuse σ.steps σ.off)) :
    Calls Try.prog 41 #[.pointer (some ⟨d, 0, none⟩)] w3 fun e w4 => e = .returned (.int .i64 (stpC A)) ∧ Cel w4 d 75 (dc mn un σ.ms σ.us pv' σ.room (stpA A).fuse (stpA A).steps (stpA A).off) ∧ Fr (fun k => k = d) w3 w4 := by
  have hfz := h.fz
  have hst := h.st
  rw [h.fuse, h.steps, h.off] at hC
  unfold stpA stpC
  by_cases h1 : A.fuse = 1
  · rw [if_pos h1, if_pos h1]
    rw [h1] at hC
    exact step_burn (h := hC)
  · rw [if_neg h1, if_neg h1]
    rw [hoff] at hC ⊢
    exact step_ok (h := hC) (h1 := h1) (h2 := hfz) (h3 := by omega)

/-- the fuse, the steps, the power alone turned -/
theorem Gd.stp {w w' : World} {d m : Nat} {A : Ab} {σ : Dv} (h : Gd w d m A σ) (hI : DInv w' d 0 { σ with fuse := (stpA A).fuse, steps := (stpA A).steps, off := (stpA A).off }) : Gd w' d (m + 1) (stpA A) { σ with fuse := (stpA A).fuse, steps := (stpA A).steps, off := (stpA A).off } := by
  obtain ⟨e1, e2, e3, e4⟩ := stpA_rest A
  have hs := h.stepped
  refine ⟨hI, ?_, ?_, ?_, ?_, ?_, ?_, ?_, rfl, rfl, rfl, ?_, ?_, ?_, ?_, ?_, Nat.le_succ_of_le h.nn, Nat.le_succ_of_le h.ns, hs.1, hs.2⟩
  · rw [e1]; exact h.now
  · rw [e2]; exact h.safe
  · rw [e3]; exact h.cl
  · rw [e3]; exact h.chs
  · rw [e1]; exact h.un
  · rw [e2]; exact h.us
  · rw [e4]; exact h.room
  · rw [e2]; exact h.ss
  · rw [e2, e3, e4]; exact h.ok
  · rw [e1, e2, e3]; exact h.run
  · rw [e2, e4]; exact h.usf
  · rw [e4]; exact h.rm

theorem Gd.chg {w w' : World} {d m : Nat} {A : Ab} {σ σ' : Dv} (h : Gd w d m A σ) (c : AC) (ch : Ch) (hI : DInv w' d 0 σ') (hok : okA A.now c) (hu : (used (act A.now c) : Int) ≤ A.room)
    (hnow : ∀ x, (σ'.S (.now x)).map Prod.snd = lk (act A.now c) x) (hsafe : ∀ x, σ'.S (.safe x) = σ.S (.safe x)) (hpend : ∀ i, i < σ.cs.length → σ'.S (.pend i) = σ.S (.pend i)) (hnew : (σ'.S (.pend σ.cs.length)).map Prod.snd = some c.data)
    (hcs : σ'.cs = σ.cs ++ [ch]) (hk : ch.k = c.k) (hs : ch.s = c.s) (ht : ch.t = c.t) (hun : σ'.un = used (act A.now c)) (hus : σ'.us = σ.us) (hro : σ'.room = σ.room) (hfu : σ'.fuse = (stpA A).fuse) (hste : σ'.steps = (stpA A).steps) (hof : σ'.off = (stpA A).off)
    (hnn : σ'.nn ≤ σ.nn + 1) (hns : σ'.ns = σ.ns) : Gd w' d (m + 1) (chgA A c) σ' := by
  obtain ⟨e1, e2, e3, e4⟩ := stpA_rest A
  have hs1 := h.stepped
  have hcl := h.cl
  have hlen : σ'.cs.length = σ.cs.length + 1 := by rw [hcs]; simp
  refine ⟨hI, hnow, ?_, ?_, ⟨?_, ?_⟩, hun, ?_, ?_, hfu, hste, hof, ?_, ?_, ?_, ?_, ?_, ?_, ?_, hs1.1, hs1.2⟩
  · show cont σ'.S = lk (stpA A).safe
    rw [e2, ← h.safe]
    funext x
    unfold cont
    rw [hsafe]
  · show _ = (A.pend ++ [c]).length
    rw [hlen]
    simp [hcl]
  · show (A.pend ++ [c]).length ≤ _
    rw [hlen]
    simp [hcl]
  · intro i c' a hc ha
    have ha : (A.pend ++ [c])[i]? = some a := ha
    rw [hcs] at hc
    by_cases hi : i < σ.cs.length
    · rw [List.getElem?_append_left hi] at hc
      rw [List.getElem?_append_left (by omega)] at ha
      obtain ⟨g1, g2, g3, g4⟩ := h.chs.eq i c' a hc ha
      refine ⟨g1, g2, g3, ?_⟩
      rw [← g4]
      unfold Dof
      rw [hpend i hi]
    · rw [List.getElem?_append_right (by omega)] at hc
      rw [List.getElem?_append_right (by omega)] at ha
      have hi' : i = σ.cs.length := by
        have := (List.getElem?_eq_some_iff.1 hc).1
        simp at this
        omega
      subst hi'
      rw [hcl] at ha
      simp at hc ha
      subst hc
      subst ha
      refine ⟨hk, hs, ht, ?_⟩
      unfold Dof
      rw [hnew]
      rfl
  · show σ'.us = used (stpA A).safe
    rw [hus, e2]; exact h.us
  · show σ'.room = (stpA A).room
    rw [hro, e4]; exact h.room
  · show Srt (stpA A).safe
    rw [e2]; exact h.ss
  · show okR (stpA A).room (stpA A).safe (A.pend ++ [c])
    rw [e2, e4, okR_append, h.run]
    exact ⟨h.ok, hok, hu, trivial⟩
  · show acts (stpA A).safe (A.pend ++ [c]) = act A.now c
    rw [e2, acts_append, h.run]
    rfl
  · show (used (stpA A).safe : Int) ≤ (stpA A).room
    rw [e2, e4]; exact h.usf
  · show (stpA A).room ≤ _
    rw [e4]; exact h.rm
  · have := h.nn; omega
  · have := h.ns
    rw [hlen, hns]
    omega

end Go.Proofs.Ytbdmlenapccdnaa
