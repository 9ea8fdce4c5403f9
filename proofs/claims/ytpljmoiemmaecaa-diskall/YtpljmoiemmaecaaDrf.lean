/- What a disk refuses. -/
import Derived.Test.YtpljmoiemmaecaaDnl
namespace Go.Proofs.Ytpljmoiemmaecaa
open Go.RowKit

theorem Write_bad (w : World) (d B : Nat) (σ : Dv) (s : ByteArray) (b : Value) (code : Int) (h : DInv w d B σ) (hsm : s.size ≤ maxLen) (hR : readyR σ.off [s] = code) (hc : code ≠ 0) :
    Calls Try.prog 15 #[.pointer (some ⟨d, 0, none⟩), .string s, b] w fun e w' => e = .returned (.int .i64 code) ∧ Fr (fun _ => False) w w' := by
  obtain ⟨W0, hW0⟩ : ∃ W0, w.alloc (.cells #[.string s] 9) = W0 := ⟨_, rfl⟩
  have hf0 : Fr (fun _ => False) w W0 := by rw [← hW0]; exact Fr.alloc w _ _
  have h0 := h.keep hf0
  have hN0 : Cel W0 w.heap.size 9 #[.string s] := by rw [← hW0]; exact heap_alloc_new w _
  have hrdy : Calls Try.prog 31 #[.pointer (some ⟨d, 0, none⟩), .slice (some ⟨w.heap.size, 0, none⟩) 1 1] W0 fun e w' => e = .returned (.int .i64 code) ∧ W0 = w' := by
    have := ready_any σ.mn σ.ms σ.un σ.us σ.room σ.fuse σ.steps σ.pv σ.off W0 d [s] (some ⟨w.heap.size, 0, none⟩) 1 h0.cel (.inr ⟨_, 0, rfl, fun i x hi => by
      match i, hi with
      | 0, hi => simp at hi; subst hi; exact hN0.cell 0
      | i + 1, hi => simp at hi⟩) (by simp) (fun x hx => by simp at hx; subst hx; exact hsm)
    rw [hR] at this
    exact this
  have t0 : (code == 0) = false := by simpa using hc
  have t1 : (code != 0) = true := by simpa using hc
  have HR := Lib.hid hrdy
  have HW := Lib.hid hW0
  clear hrdy hW0 hR hc
  go_enter Try.func15, Try.ntmps15
  go_wp2_with fail
  rw [HW.out]
  refine HR.out.mono ?_
  rintro e w' ⟨rfl, rfl⟩
  go_wp2
  go_ret
  exact ⟨rfl, hf0⟩

theorem Drop_bad (w : World) (d B : Nat) (σ : Dv) (s : ByteArray) (code : Int) (h : DInv w d B σ) (hsm : s.size ≤ maxLen) (hR : readyR σ.off [s] = code) (hc : code ≠ 0) :
    Calls Try.prog 17 #[.pointer (some ⟨d, 0, none⟩), .string s] w fun e w' => e = .returned (.int .i64 code) ∧ Fr (fun _ => False) w w' := by
  obtain ⟨W0, hW0⟩ : ∃ W0, w.alloc (.cells #[.string s] 9) = W0 := ⟨_, rfl⟩
  have hf0 : Fr (fun _ => False) w W0 := by rw [← hW0]; exact Fr.alloc w _ _
  have h0 := h.keep hf0
  have hN0 : Cel W0 w.heap.size 9 #[.string s] := by rw [← hW0]; exact heap_alloc_new w _
  have hrdy : Calls Try.prog 31 #[.pointer (some ⟨d, 0, none⟩), .slice (some ⟨w.heap.size, 0, none⟩) 1 1] W0 fun e w' => e = .returned (.int .i64 code) ∧ W0 = w' := by
    have := ready_any σ.mn σ.ms σ.un σ.us σ.room σ.fuse σ.steps σ.pv σ.off W0 d [s] (some ⟨w.heap.size, 0, none⟩) 1 h0.cel (.inr ⟨_, 0, rfl, fun i x hi => by
      match i, hi with
      | 0, hi => simp at hi; subst hi; exact hN0.cell 0
      | i + 1, hi => simp at hi⟩) (by simp) (fun x hx => by simp at hx; subst hx; exact hsm)
    rw [hR] at this
    exact this
  have t0 : (code == 0) = false := by simpa using hc
  have t1 : (code != 0) = true := by simpa using hc
  have HR := Lib.hid hrdy
  have HW := Lib.hid hW0
  clear hrdy hW0 hR hc
  go_enter Try.func17, Try.ntmps17
  go_wp2_with fail
  rw [HW.out]
  refine HR.out.mono ?_
  rintro e w' ⟨rfl, rfl⟩
  go_wp2
  go_ret
  exact ⟨rfl, hf0⟩

theorem Move_bad (w : World) (d B : Nat) (σ : Dv) (s t : ByteArray) (code : Int) (h : DInv w d B σ) (hsm : s.size ≤ maxLen) (htm : t.size ≤ maxLen) (hR : readyR σ.off [s, t] = code) (hc : code ≠ 0) :
    Calls Try.prog 16 #[.pointer (some ⟨d, 0, none⟩), .string s, .string t] w fun e w' => e = .returned (.int .i64 code) ∧ Fr (fun _ => False) w w' := by
  obtain ⟨W0, hW0⟩ : ∃ W0, w.alloc (.cells #[.string s, .string t] 9) = W0 := ⟨_, rfl⟩
  have hf0 : Fr (fun _ => False) w W0 := by rw [← hW0]; exact Fr.alloc w _ _
  have h0 := h.keep hf0
  have hN0 : Cel W0 w.heap.size 9 #[.string s, .string t] := by rw [← hW0]; exact heap_alloc_new w _
  have hrdy : Calls Try.prog 31 #[.pointer (some ⟨d, 0, none⟩), .slice (some ⟨w.heap.size, 0, none⟩) 2 2] W0 fun e w' => e = .returned (.int .i64 code) ∧ W0 = w' := by
    have := ready_any σ.mn σ.ms σ.un σ.us σ.room σ.fuse σ.steps σ.pv σ.off W0 d [s, t] (some ⟨w.heap.size, 0, none⟩) 2 h0.cel (.inr ⟨_, 0, rfl, fun i x hi => by
      match i, hi with
      | 0, hi => simp at hi; subst hi; exact hN0.cell 0
      | 1, hi => simp at hi; subst hi; exact hN0.cell 1
      | i + 2, hi => simp at hi⟩) (by simp) (fun x hx => by
        simp at hx
        rcases hx with rfl | rfl
        · exact hsm
        · exact htm)
    rw [hR] at this
    exact this
  have t0 : (code == 0) = false := by simpa using hc
  have t1 : (code != 0) = true := by simpa using hc
  have HR := Lib.hid hrdy
  have HW := Lib.hid hW0
  clear hrdy hW0 hR hc
  go_enter Try.func16, Try.ntmps16
  go_wp2_with fail
  rw [HW.out]
  refine HR.out.mono ?_
  rintro e w' ⟨rfl, rfl⟩
  go_wp2
  go_ret
  exact ⟨rfl, hf0⟩

theorem Read_bad (w : World) (d B : Nat) (σ : Dv) (s : ByteArray) (code : Int) (h : DInv w d B σ) (hsm : s.size ≤ maxLen) (hR : readyR σ.off [s] = code) (hc : code ≠ 0) :
    Calls Try.prog 19 #[.pointer (some ⟨d, 0, none⟩), .string s] w fun e w' => e = .returned (.tuple #[.slice none 0 0, .int .i64 code]) ∧ Fr (fun _ => False) w w' := by
  obtain ⟨W0, hW0⟩ : ∃ W0, w.alloc (.cells #[.string s] 9) = W0 := ⟨_, rfl⟩
  have hf0 : Fr (fun _ => False) w W0 := by rw [← hW0]; exact Fr.alloc w _ _
  have h0 := h.keep hf0
  have hN0 : Cel W0 w.heap.size 9 #[.string s] := by rw [← hW0]; exact heap_alloc_new w _
  have hrdy : Calls Try.prog 31 #[.pointer (some ⟨d, 0, none⟩), .slice (some ⟨w.heap.size, 0, none⟩) 1 1] W0 fun e w' => e = .returned (.int .i64 code) ∧ W0 = w' := by
    have := ready_any σ.mn σ.ms σ.un σ.us σ.room σ.fuse σ.steps σ.pv σ.off W0 d [s] (some ⟨w.heap.size, 0, none⟩) 1 h0.cel (.inr ⟨_, 0, rfl, fun i x hi => by
      match i, hi with
      | 0, hi => simp at hi; subst hi; exact hN0.cell 0
      | i + 1, hi => simp at hi⟩) (by simp) (fun x hx => by simp at hx; subst hx; exact hsm)
    rw [hR] at this
    exact this
  have t0 : (code == 0) = false := by simpa using hc
  have t1 : (code != 0) = true := by simpa using hc
  have HR := Lib.hid hrdy
  have HW := Lib.hid hW0
  clear hrdy hW0 hR hc
  go_enter Try.func19, Try.ntmps19
  go_wp2_with fail
  rw [HW.out]
  refine HR.out.mono ?_
  rintro e w' ⟨rfl, rfl⟩
  go_wp2
  go_ret2
  exact ⟨rfl, hf0⟩

theorem Drop_none (w : World) (d B : Nat) (σ : Dv) (s : ByteArray) (h : DInv w d B σ) (hsm : s.size ≤ maxLen) (hR : readyR σ.off [s] = 0) (hp : σ.S (.now s) = none) :
    Calls Try.prog 17 #[.pointer (some ⟨d, 0, none⟩), .string s] w fun e w' => e = .returned (.int .i64 4) ∧ Fr (fun _ => False) w w' := by
  obtain ⟨W0, hW0⟩ : ∃ W0, w.alloc (.cells #[.string s] 9) = W0 := ⟨_, rfl⟩
  have hf0 : Fr (fun _ => False) w W0 := by rw [← hW0]; exact Fr.alloc w _ _
  have h0 := h.keep hf0
  have hN0 : Cel W0 w.heap.size 9 #[.string s] := by rw [← hW0]; exact heap_alloc_new w _
  have hrdy : Calls Try.prog 31 #[.pointer (some ⟨d, 0, none⟩), .slice (some ⟨w.heap.size, 0, none⟩) 1 1] W0 fun e w' => e = .returned (.int .i64 0) ∧ W0 = w' := by
    have := ready_any σ.mn σ.ms σ.un σ.us σ.room σ.fuse σ.steps σ.pv σ.off W0 d [s] (some ⟨w.heap.size, 0, none⟩) 1 h0.cel (.inr ⟨_, 0, rfl, fun i x hi => by
      match i, hi with
      | 0, hi => simp at hi; subst hi; exact hN0.cell 0
      | i + 1, hi => simp at hi⟩) (by simp) (fun x hx => by simp at hx; subst hx; exact hsm)
    rw [hR] at this
    exact this
  have hhas := has_any W0 d 0 61 σ.cells σ.mn σ.nn (vnow σ.S) s h0.cel rfl h0.fn hsm
  have hno : (vnow σ.S s).isSome = false := by unfold vnow; rw [hp]; rfl
  rw [hno] at hhas
  have HR := Lib.hid hrdy
  have HH := Lib.hid hhas
  have HW := Lib.hid hW0
  clear hrdy hW0 hR hhas hno hp
  go_enter Try.func17, Try.ntmps17
  go_wp2_with fail
  rw [HW.out]
  refine HR.out.mono ?_
  rintro e w' ⟨rfl, rfl⟩
  go_wp2_with fail
  refine HH.out.mono ?_
  rintro e w' ⟨rfl, rfl⟩
  go_wp2
  go_ret
  exact ⟨rfl, hf0⟩

theorem Move_none (w : World) (d B : Nat) (σ : Dv) (s t : ByteArray) (h : DInv w d B σ) (hsm : s.size ≤ maxLen) (htm : t.size ≤ maxLen) (hR : readyR σ.off [s, t] = 0) (hp : σ.S (.now s) = none) :
    Calls Try.prog 16 #[.pointer (some ⟨d, 0, none⟩), .string s, .string t] w fun e w' => e = .returned (.int .i64 4) ∧ Fr (fun _ => False) w w' := by
  obtain ⟨W0, hW0⟩ : ∃ W0, w.alloc (.cells #[.string s, .string t] 9) = W0 := ⟨_, rfl⟩
  have hf0 : Fr (fun _ => False) w W0 := by rw [← hW0]; exact Fr.alloc w _ _
  have h0 := h.keep hf0
  have hN0 : Cel W0 w.heap.size 9 #[.string s, .string t] := by rw [← hW0]; exact heap_alloc_new w _
  have hrdy : Calls Try.prog 31 #[.pointer (some ⟨d, 0, none⟩), .slice (some ⟨w.heap.size, 0, none⟩) 2 2] W0 fun e w' => e = .returned (.int .i64 0) ∧ W0 = w' := by
    have := ready_any σ.mn σ.ms σ.un σ.us σ.room σ.fuse σ.steps σ.pv σ.off W0 d [s, t] (some ⟨w.heap.size, 0, none⟩) 2 h0.cel (.inr ⟨_, 0, rfl, fun i x hi => by
      match i, hi with
      | 0, hi => simp at hi; subst hi; exact hN0.cell 0
      | 1, hi => simp at hi; subst hi; exact hN0.cell 1
      | i + 2, hi => simp at hi⟩) (by simp) (fun x hx => by
        simp at hx
        rcases hx with rfl | rfl
        · exact hsm
        · exact htm)
    rw [hR] at this
    exact this
  have hhas := has_any W0 d 0 61 σ.cells σ.mn σ.nn (vnow σ.S) s h0.cel rfl h0.fn hsm
  have hno : (vnow σ.S s).isSome = false := by unfold vnow; rw [hp]; rfl
  rw [hno] at hhas
  have HR := Lib.hid hrdy
  have HH := Lib.hid hhas
  have HW := Lib.hid hW0
  clear hrdy hW0 hR hhas hno hp
  go_enter Try.func16, Try.ntmps16
  go_wp2_with fail
  rw [HW.out]
  refine HR.out.mono ?_
  rintro e w' ⟨rfl, rfl⟩
  go_wp2_with fail
  refine HH.out.mono ?_
  rintro e w' ⟨rfl, rfl⟩
  go_wp2
  go_ret
  exact ⟨rfl, hf0⟩

theorem Read_none (w : World) (d B : Nat) (σ : Dv) (s : ByteArray) (h : DInv w d B σ) (hsm : s.size ≤ maxLen) (hR : readyR σ.off [s] = 0) (hp : σ.S (.now s) = none) :
    Calls Try.prog 19 #[.pointer (some ⟨d, 0, none⟩), .string s] w fun e w' => e = .returned (.tuple #[.slice none 0 0, .int .i64 4]) ∧ Fr (fun _ => False) w w' := by
  obtain ⟨W0, hW0⟩ : ∃ W0, w.alloc (.cells #[.string s] 9) = W0 := ⟨_, rfl⟩
  have hf0 : Fr (fun _ => False) w W0 := by rw [← hW0]; exact Fr.alloc w _ _
  have h0 := h.keep hf0
  have hN0 : Cel W0 w.heap.size 9 #[.string s] := by rw [← hW0]; exact heap_alloc_new w _
  have hrdy : Calls Try.prog 31 #[.pointer (some ⟨d, 0, none⟩), .slice (some ⟨w.heap.size, 0, none⟩) 1 1] W0 fun e w' => e = .returned (.int .i64 0) ∧ W0 = w' := by
    have := ready_any σ.mn σ.ms σ.un σ.us σ.room σ.fuse σ.steps σ.pv σ.off W0 d [s] (some ⟨w.heap.size, 0, none⟩) 1 h0.cel (.inr ⟨_, 0, rfl, fun i x hi => by
      match i, hi with
      | 0, hi => simp at hi; subst hi; exact hN0.cell 0
      | i + 1, hi => simp at hi⟩) (by simp) (fun x hx => by simp at hx; subst hx; exact hsm)
    rw [hR] at this
    exact this
  have hhas := has_any W0 d 0 61 σ.cells σ.mn σ.nn (vnow σ.S) s h0.cel rfl h0.fn hsm
  have hno : (vnow σ.S s).isSome = false := by unfold vnow; rw [hp]; rfl
  rw [hno] at hhas
  have HR := Lib.hid hrdy
  have HH := Lib.hid hhas
  have HW := Lib.hid hW0
  clear hrdy hW0 hR hhas hno hp
  go_enter Try.func19, Try.ntmps19
  go_wp2_with fail
  rw [HW.out]
  refine HR.out.mono ?_
  rintro e w' ⟨rfl, rfl⟩
  go_wp2_with fail
  refine HH.out.mono ?_
  rintro e w' ⟨rfl, rfl⟩
  go_wp2
  go_ret2
  exact ⟨rfl, hf0⟩

end Go.Proofs.Ytpljmoiemmaecaa
