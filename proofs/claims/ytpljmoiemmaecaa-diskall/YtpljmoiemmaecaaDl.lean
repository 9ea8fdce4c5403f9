/- The contracts of a disk's Move, Drop, Read that are done. -/
import Derived.Test.YtpljmoiemmaecaaDk
namespace Go.Proofs.Ytpljmoiemmaecaa
open Go.RowKit

theorem PlainPost.lift {w w0 w' : World} {d B : Nat} {σ : Dv} {kk : Int} {s t : ByteArray} {S' : Fam} {nn' : Nat} {un' code fuse' steps' : Int} {off' : Bool} {e : Ending} (h : PlainPost w0 d B σ kk s t S' nn' un' code fuse' steps' off' e w') (hf : Fr (fun _ => False) w w0) : PlainPost w d B σ kk s t S' nn' un' code fuse' steps' off' e w' := by
  obtain ⟨h0, pv', h1, h2, h3⟩ := h
  exact ⟨h0, pv', h1, (hf.mono (fun _ h => h.elim)).trans h2, fun k hk => (h3 k hk).imp id (fun h => Nat.le_trans hf.size h)⟩

theorem str_ne {s t : ByteArray} (h : s ≠ t) : (s.toList == t.toList) = false := by
  rw [ByteArray.toList_eq, ByteArray.toList_eq, beq_eq_false_iff_ne]
  exact fun e => h (ByteArray.ext (Array.toList_inj.1 e))
theorem str_self (s : ByteArray) : (s.toList == s.toList) = true := by simp

set_option maxRecDepth 100000 in
set_option maxHeartbeats 1000000 in
theorem Move_do (w : World) (d B : Nat) (σ : Dv) (s t : ByteArray) (v v1 : Value) (l l1 : List Int) (h : DInv w d B σ) (hB : B ≤ w.heap.size) (hp : σ.S (.now s) = some (v, l)) (ht1 : (σ.S (.now t)).getD (nilS, []) = (v1, l1)) (hst0 : s ≠ t) (hs : Dx.name s = true) (ht : Dx.name t = true) (hoff : σ.off = false) (hl : l1.length ≤ 100000000) (hu : 0 ≤ σ.un ∧ σ.un ≤ 1000000000000) (hn : σ.nn < 1000000) (hc : σ.cs.length ≤ 1000000)
    (code fuse' steps' : Int) (off' : Bool)
    (hst : ∀ w3 pv' mn un, Cel w3 d 61 (dc mn un σ.ms σ.us pv' σ.room σ.fuse σ.steps σ.off) → Calls Try.prog 35 #[.pointer (some ⟨d, 0, none⟩)] w3 fun e w4 => e = .returned (.int .i64 code) ∧ Cel w4 d 61 (dc mn un σ.ms σ.us pv' σ.room fuse' steps' off') ∧ Fr (fun k => k = d) w3 w4) :
    Calls Try.prog 16 #[.pointer (some ⟨d, 0, none⟩), .string s, .string t] w (PlainPost w d B σ 1 s t (famMove σ.S s t) (σ.nn + 1) (σ.un - l1.length) code fuse' steps' off') := by
  have hsm : s.size ≤ maxLen := by have := name_size hs; unfold maxLen; omega
  have htm : t.size ≤ maxLen := by have := name_size ht; unfold maxLen; omega
  obtain ⟨W0, hW0⟩ : ∃ W0, w.alloc (.cells #[.string s, .string t] 9) = W0 := ⟨_, rfl⟩
  have hf0 : Fr (fun _ => False) w W0 := by rw [← hW0]; exact Fr.alloc w _ _
  have h0 := h.keep hf0
  have hN0 : Cel W0 w.heap.size 9 #[.string s, .string t] := by rw [← hW0]; exact heap_alloc_new w _
  have hrdy : Calls Try.prog 31 #[.pointer (some ⟨d, 0, none⟩), .slice (some ⟨w.heap.size, 0, none⟩) 2 2] W0 fun e w' => e = .returned (.int .i64 0) ∧ W0 = w' := by
    have := ready_any σ.mn σ.ms σ.un σ.us σ.room σ.fuse σ.steps σ.pv σ.off W0 d [s, t] (some ⟨w.heap.size, 0, none⟩) 2 h0.cel (.inr ⟨_, 0, rfl, fun i x hi => by
      match i, hi with
      | 0, hi => simp at hi; subst hi; exact hN0.cell 0
      | 1, hi => simp at hi; subst hi; exact hN0.cell 1
      | i + 2, hi => simp at hi⟩) (by simp) (fun x hx => by
        simp at hx
        rcases hx with rfl | rfl
        · exact hsm
        · exact htm)
    simp only [readyR, List.all_cons, hs, ht, List.all_nil, Bool.and_true, hoff, if_true] at this
    exact this
  have hhas := has_any W0 d 0 61 σ.cells σ.mn σ.nn (vnow σ.S) s h0.cel rfl h0.fn hsm
  have hsome : (vnow σ.S s).isSome = true := by unfold vnow; rw [hp]; rfl
  rw [hsome] at hhas
  have hchg := change_move W0 d B σ s t v v1 l l1 h0 (Nat.le_trans hB hf0.size) hp ht1 hst0 hsm htm hl hu hn hc code fuse' steps' off' hst
  have HR := Lib.hid hrdy
  have HH := Lib.hid hhas
  have HC := Lib.hid hchg
  have HW := Lib.hid hW0
  have tst := str_ne hst0
  clear hrdy hhas hst hW0 hoff hchg hp ht1 hsome
  go_enter Try.func16, Try.ntmps16
  go_wp2_with fail
  rw [HW.out]
  refine HR.out.mono ?_
  rintro e w' ⟨rfl, rfl⟩
  go_wp2_with fail
  refine HH.out.mono ?_
  rintro e w' ⟨rfl, rfl⟩
  go_wp2_with fail
  refine (show Calls Try.prog 33 #[.pointer (some ⟨d, 0, none⟩), chg 1 s t (.slice none 0 0)] W0 _ from HC.out).mono ?_
  intro e w3 hP
  have he : e = .returned (.int .i64 code) := hP.1
  subst he
  have hP' := hP.lift hf0
  clear hP
  go_wp2
  go_ret
  exact hP'

/-- the fuse, the steps, the power turn; nothing else -/
theorem DInv.turn {w w' : World} {d B : Nat} {σ : Dv} (h : DInv w d B σ) {fuse' steps' : Int} {off' : Bool} (hC : Cel w' d 61 (dc σ.mn σ.un σ.ms σ.us σ.pv σ.room fuse' steps' off')) (hf : Fr (fun k => k = d) w w') : DInv w' d B { σ with fuse := fuse', steps := steps', off := off' } :=
  ⟨hC, h.fn.fr hf (fun b e hk => h.cel.ne_map (h.fn.map e) hk.symm), h.fs.fr hf (fun b e hk => h.cel.ne_map (h.fs.map e) hk.symm),
   h.fam.keep (fun p u k e => (h.fam.rd p u k e).fr hf (fun g eg hk => h.cel.ne_rd (h.fam.rd p u k e) (by decide) (by rw [eg, hk]))), h.mm,
   own_fr h.row hf (fun g e hk => row_ne h.row h.cel (by decide) (by rw [e, hk])), h.pend, h.pend0⟩

set_option maxRecDepth 100000 in
set_option maxHeartbeats 1000000 in
theorem Move_self (w : World) (d B : Nat) (σ : Dv) (s : ByteArray) (v : Value) (l : List Int) (h : DInv w d B σ) (hp : σ.S (.now s) = some (v, l)) (hs : Dx.name s = true) (hoff : σ.off = false)
    (code fuse' steps' : Int) (off' : Bool)
    (hst : ∀ w3 pv' mn un, Cel w3 d 61 (dc mn un σ.ms σ.us pv' σ.room σ.fuse σ.steps σ.off) → Calls Try.prog 35 #[.pointer (some ⟨d, 0, none⟩)] w3 fun e w4 => e = .returned (.int .i64 code) ∧ Cel w4 d 61 (dc mn un σ.ms σ.us pv' σ.room fuse' steps' off') ∧ Fr (fun k => k = d) w3 w4) :
    Calls Try.prog 16 #[.pointer (some ⟨d, 0, none⟩), .string s, .string s] w fun e w' => e = .returned (.int .i64 code) ∧ DInv w' d B { σ with fuse := fuse', steps := steps', off := off' } ∧ Fr (fun k => k = d) w w' := by
  have hsm : s.size ≤ maxLen := by have := name_size hs; unfold maxLen; omega
  obtain ⟨W0, hW0⟩ : ∃ W0, w.alloc (.cells #[.string s, .string s] 9) = W0 := ⟨_, rfl⟩
  have hf0 : Fr (fun _ => False) w W0 := by rw [← hW0]; exact Fr.alloc w _ _
  have h0 := h.keep hf0
  have hN0 : Cel W0 w.heap.size 9 #[.string s, .string s] := by rw [← hW0]; exact heap_alloc_new w _
  have hrdy : Calls Try.prog 31 #[.pointer (some ⟨d, 0, none⟩), .slice (some ⟨w.heap.size, 0, none⟩) 2 2] W0 fun e w' => e = .returned (.int .i64 0) ∧ W0 = w' := by
    have := ready_any σ.mn σ.ms σ.un σ.us σ.room σ.fuse σ.steps σ.pv σ.off W0 d [s, s] (some ⟨w.heap.size, 0, none⟩) 2 h0.cel (.inr ⟨_, 0, rfl, fun i x hi => by
      match i, hi with
      | 0, hi => simp at hi; subst hi; exact hN0.cell 0
      | 1, hi => simp at hi; subst hi; exact hN0.cell 1
      | i + 2, hi => simp at hi⟩) (by simp) (fun x hx => by
        simp at hx
        subst hx
        exact hsm)
    simp only [readyR, List.all_cons, hs, List.all_nil, Bool.and_true, hoff, if_true] at this
    exact this
  have hhas := has_any W0 d 0 61 σ.cells σ.mn σ.nn (vnow σ.S) s h0.cel rfl h0.fn hsm
  have hsome : (vnow σ.S s).isSome = true := by unfold vnow; rw [hp]; rfl
  rw [hsome] at hhas
  have hchg := hst W0 σ.pv σ.mn σ.un h0.cel
  have HR := Lib.hid hrdy
  have HH := Lib.hid hhas
  have HC := Lib.hid hchg
  have HW := Lib.hid hW0
  have tst := str_self s
  clear hrdy hhas hst hW0 hoff hchg hp hsome
  go_enter Try.func16, Try.ntmps16
  go_wp2_with fail
  rw [HW.out]
  refine HR.out.mono ?_
  rintro e w' ⟨rfl, rfl⟩
  go_wp2_with fail
  refine HH.out.mono ?_
  rintro e w' ⟨rfl, rfl⟩
  go_wp2_with fail
  refine HC.out.mono ?_
  rintro e w3 ⟨rfl, hC', hf⟩
  go_wp2
  go_ret
  exact ⟨rfl, h0.turn hC' hf, (hf0.mono (fun _ h => h.elim)).trans hf⟩

set_option maxRecDepth 100000 in
set_option maxHeartbeats 1000000 in
theorem Drop_do (w : World) (d B : Nat) (σ : Dv) (s : ByteArray) (v : Value) (l : List Int) (h : DInv w d B σ) (hB : B ≤ w.heap.size) (hp : σ.S (.now s) = some (v, l)) (hs : Dx.name s = true) (hoff : σ.off = false) (hl : l.length ≤ 100000000) (hu : 0 ≤ σ.un ∧ σ.un ≤ 1000000000000) (hc : σ.cs.length ≤ 1000000)
    (code fuse' steps' : Int) (off' : Bool)
    (hst : ∀ w3 pv' mn un, Cel w3 d 61 (dc mn un σ.ms σ.us pv' σ.room σ.fuse σ.steps σ.off) → Calls Try.prog 35 #[.pointer (some ⟨d, 0, none⟩)] w3 fun e w4 => e = .returned (.int .i64 code) ∧ Cel w4 d 61 (dc mn un σ.ms σ.us pv' σ.room fuse' steps' off') ∧ Fr (fun k => k = d) w3 w4) :
    Calls Try.prog 17 #[.pointer (some ⟨d, 0, none⟩), .string s] w (PlainPost w d B σ 2 s ⟨#[]⟩ (famDrop σ.S s) σ.nn (σ.un - l.length) code fuse' steps' off') := by
  have hsm : s.size ≤ maxLen := by have := name_size hs; unfold maxLen; omega
  obtain ⟨W0, hW0⟩ : ∃ W0, w.alloc (.cells #[.string s] 9) = W0 := ⟨_, rfl⟩
  have hf0 : Fr (fun _ => False) w W0 := by rw [← hW0]; exact Fr.alloc w _ _
  have h0 := h.keep hf0
  have hN0 : Cel W0 w.heap.size 9 #[.string s] := by rw [← hW0]; exact heap_alloc_new w _
  have hrdy : Calls Try.prog 31 #[.pointer (some ⟨d, 0, none⟩), .slice (some ⟨w.heap.size, 0, none⟩) 1 1] W0 fun e w' => e = .returned (.int .i64 0) ∧ W0 = w' := by
    have := ready_any σ.mn σ.ms σ.un σ.us σ.room σ.fuse σ.steps σ.pv σ.off W0 d [s] (some ⟨w.heap.size, 0, none⟩) 1 h0.cel (.inr ⟨_, 0, rfl, fun i x hi => by
      match i, hi with
      | 0, hi => simp at hi; subst hi; exact hN0.cell 0
      | i + 1, hi => simp at hi⟩) (by simp) (fun x hx => by simp at hx; subst hx; exact hsm)
    simp only [readyR, List.all_cons, hs, List.all_nil, Bool.and_true, hoff, if_true] at this
    exact this
  have hhas := has_any W0 d 0 61 σ.cells σ.mn σ.nn (vnow σ.S) s h0.cel rfl h0.fn hsm
  have hsome : (vnow σ.S s).isSome = true := by unfold vnow; rw [hp]; rfl
  rw [hsome] at hhas
  have hchg := change_drop W0 d B σ s v l h0 (Nat.le_trans hB hf0.size) hp hsm hl hu hc code fuse' steps' off' hst
  have HR := Lib.hid hrdy
  have HH := Lib.hid hhas
  have HC := Lib.hid hchg
  have HW := Lib.hid hW0
  clear hrdy hhas hst hW0 hoff hchg hp hsome
  go_enter Try.func17, Try.ntmps17
  go_wp2_with fail
  rw [HW.out]
  refine HR.out.mono ?_
  rintro e w' ⟨rfl, rfl⟩
  go_wp2_with fail
  refine HH.out.mono ?_
  rintro e w' ⟨rfl, rfl⟩
  go_wp2_with fail
  refine (show Calls Try.prog 33 #[.pointer (some ⟨d, 0, none⟩), chg 2 s ⟨#[]⟩ (.slice none 0 0)] W0 _ from HC.out).mono ?_
  intro e w3 hP
  have he : e = .returned (.int .i64 code) := hP.1
  subst he
  have hP' := hP.lift hf0
  clear hP
  go_wp2
  go_ret
  exact hP'

end Go.Proofs.Ytpljmoiemmaecaa
