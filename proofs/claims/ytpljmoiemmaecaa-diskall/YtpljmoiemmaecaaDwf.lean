/- A Write that finds no room. -/
import Derived.Test.YtpljmoiemmaecaaDrf
namespace Go.Proofs.Ytpljmoiemmaecaa
open Go.RowKit

set_option maxRecDepth 100000 in
set_option maxHeartbeats 1000000 in
theorem Write_full (w : World) (d B : Nat) (σ : Dv) (s : ByteArray) (A0 : Option Addr) (nb cap0 : Nat) (h : DInv w d B σ) (hs : Dx.name s = true) (hoff : σ.off = false)
    (hu : 0 ≤ σ.un ∧ σ.un ≤ σ.room ∧ σ.room ≤ 1000000000) (hfull : σ.room - σ.un < nb) (hn : σ.nn < 2000) :
    Calls Try.prog 15 #[.pointer (some ⟨d, 0, none⟩), .string s, .slice A0 nb cap0] w fun e w' => e = .returned (.int .i64 11) ∧ Fr (fun _ => False) w w' := by
  have hsz := name_size hs
  have hsm : s.size ≤ maxLen := by unfold maxLen; omega
  obtain ⟨W0, hW0⟩ : ∃ W0, w.alloc (.cells #[.string s] 9) = W0 := ⟨_, rfl⟩
  have hf0 : Fr (fun _ => False) w W0 := by rw [← hW0]; exact Fr.alloc w _ _
  have h0 := h.keep hf0
  have hN0 : Cel W0 w.heap.size 9 #[.string s] := by rw [← hW0]; exact heap_alloc_new w _
  have hrdy : Calls Try.prog 31 #[.pointer (some ⟨d, 0, none⟩), .slice (some ⟨w.heap.size, 0, none⟩) 1 1] W0 fun e w' => e = .returned (.int .i64 0) ∧ W0 = w' := by
    have := ready_any σ.mn σ.ms σ.un σ.us σ.room σ.fuse σ.steps σ.pv σ.off W0 d [s] (some ⟨w.heap.size, 0, none⟩) 1 h0.cel (.inr ⟨_, 0, rfl, fun i x hi => by
      match i, hi with
      | 0, hi => simp at hi; subst hi; exact hN0.cell 0
      | i + 1, hi => simp at hi⟩) (by simp) (fun x hx => by simp at hx; subst hx; exact hsm)
    simp only [readyR, List.all_cons, hs, List.all_nil, Bool.and_true, hoff, if_true] at this
    exact this
  have hhas := has_any W0 d 0 61 σ.cells σ.mn σ.nn (vnow σ.S) s h0.cel rfl h0.fn hsm
  obtain ⟨lk, hlk, hlen⟩ := h0.fn.len W0 (fun _ _ => rfl) 3
  have c0 := (h0.cel.cell 0).trans dc0
  have HR := Lib.hid hrdy
  have HH := Lib.hid hhas
  have HW := Lib.hid hW0
  have tl : decide ((2000 : Int) ≤ (lk : Int)) = false := by simp; omega
  have tl2 : decide ((lk : Int) ≥ 2000) = false := by simp; omega
  clear hrdy hhas hW0 hoff
  go_enter Try.func15, Try.ntmps15
  go_wp2_with fail
  rw [HW.out]
  refine HR.out.mono ?_
  rintro e w' ⟨rfl, rfl⟩
  go_wp2_with fail
  refine HH.out.mono ?_
  rintro e w' ⟨rfl, rfl⟩
  cases hsome : (vnow σ.S s).isSome
  all_goals
    go_wp2_with fail
    refine (Free_any σ.mn σ.ms σ.un σ.us σ.room σ.fuse σ.steps σ.pv σ.off W0 d h0.cel (by omega) hu.2.2).mono ?_
    rintro e w' ⟨rfl, n1, rfl⟩
    have hcmp : decide ((σ.room - σ.un : Int) < (nb : Int)) = true := by simp; omega
    go_wp2
    go_ret
    exact ⟨rfl, hf0.trans (Fr.drewN W0 n1 _)⟩

end Go.Proofs.Ytpljmoiemmaecaa
