/- Contracts of a volume's move and drop. -/
import Derived.Test.YtpljmoiemmaecaaDv
import Derived.StillTailTactics
namespace Go.Proofs.Ytpljmoiemmaecaa
open Go.RowKit

set_option maxRecDepth 100000 in
set_option maxHeartbeats 1000000 in
theorem vdrop_any (w : World) (d o : Nat) (T : TypeId) (C : Array Value) (b n : Nat) (V : ByteArray → Option Value) (s : ByteArray) (l : List Int) (used : Int)
    (hC : Cel w d T C) (c0 : C[o]? = some (.map (some b))) (c1 : C[o + 1]? = some (.int .i64 used)) (hM : MapV w b n V) (hs : s.size ≤ maxLen) (hv : RdB w ((V s).getD nilS) l) (hl : l.length ≤ 100000000) (hu : 0 ≤ used ∧ used ≤ 1000000000000) :
    Calls Try.prog 47 #[.pointer (some ⟨d, o, none⟩), .string s] w fun e w' => e = .returned (.tuple #[]) ∧ Cel w' d T (C.setIfInBounds (o + 1) (.int .i64 (used - l.length))) ∧ MapV w' b n (fun t => if t = s then none else V t) ∧ Fr (fun k => k = d ∨ k = b) w w' := by
  have h0 := (hC.cell o).trans c0
  have h1 := (hC.cell (o + 1)).trans c1
  have f1 := hC.fz (o + 1)
  obtain ⟨A, cap, hvf, _, _, _⟩ := hv.form
  have hlk := hM.look0 s hs
  rw [hvf] at hlk
  have hdb : d ≠ b := hC.ne_map hM
  obtain ⟨w2, hw2⟩ : ∃ w2, w.drew = w2 := ⟨_, rfl⟩
  have hlk2 : (Instr.lookup 56 (.map (some b)) (.string s) false).run Try.prog w2 = .ok (.slice A l.length cap) w2 := by
    have := (hM.ofBlock (w' := w2) (by rw [← hw2]; rfl)).look0 s hs
    rw [hvf] at this
    exact this
  have hC2 : Cel w2 d T C := hC.of (by rw [← hw2]; rfl)
  have hM2 : MapV w2 b n V := hM.ofBlock (by rw [← hw2]; rfl)
  have hf2 : Fr (fun k => k = d ∨ k = b) w w2 := by rw [← hw2]; exact Fr.drew w _
  have k0 := (hC2.cell o).trans c0
  have k1 := (hC2.cell (o + 1)).trans c1
  have g1 := hC2.fz (o + 1)
  have HC0 := Lib.hid c0
  have HV := Lib.hid hvf
  clear c0 c1 hvf
  obtain ⟨w3, hrun3, hM3, hg3⟩ := ((hM2.ofBlock (w' := w2.setCell ⟨d, o + 1, none⟩ (.int .i64 (used - l.length))) (Below.heap_setCell w2 ⟨d, o + 1, none⟩ _ b (fun e => hdb e.symm))).del s hs 0)
  go_enter Try.func47, Try.ntmps47
  go_wp2_with fail
  go_still_tail 14, (by kernel_rfl)
  change wpList _ _ _ _ _ w.drew
  rw [hw2]
  go_wp2
  go_end0
  have hb3 : w3.heap[d]? = _ := hg3.block d (by simp [World.setCell]; exact hC2.lt) (fun e => hdb (by injection e))
  exact ⟨rfl, (hC2.set (o + 1) _).of hb3, hM3, (hf2.trans ((Fr.set w2 d (o + 1) _).mono (fun i h => .inl (.inl h)))).trans ((Fr.grown hg3).mono (fun i h => .inl (.inr (by injection h with h; exact h.symm))))⟩

set_option maxRecDepth 100000 in
set_option maxHeartbeats 1000000 in
theorem vmove_any (w : World) (d o : Nat) (T : TypeId) (C : Array Value) (b n : Nat) (V : ByteArray → Option Value) (s t : ByteArray) (l : List Int) (used : Int) (hst : s ≠ t) (v : Value) (hvs : (V s).getD nilS = v) (hiv : isS v = true)
    (hC : Cel w d T C) (c0 : C[o]? = some (.map (some b))) (c1 : C[o + 1]? = some (.int .i64 used)) (hM : MapV w b n V) (hs : s.size ≤ maxLen) (ht : t.size ≤ maxLen) (hv : RdB w ((V t).getD nilS) l) (hl : l.length ≤ 100000000) (hu : 0 ≤ used ∧ used ≤ 1000000000000) (hn : n < 1000000) :
    Calls Try.prog 46 #[.pointer (some ⟨d, o, none⟩), .string s, .string t] w fun e w' => e = .returned (.tuple #[]) ∧ Cel w' d T (C.setIfInBounds (o + 1) (.int .i64 (used - l.length))) ∧ MapV w' b (n + 1) (fun x => if x = s then none else if x = t then some v else V x) ∧ Fr (fun k => k = d ∨ k = b) w w' := by
  have h0 := (hC.cell o).trans c0
  have h1 := (hC.cell (o + 1)).trans c1
  have f1 := hC.fz (o + 1)
  have teq : (s.toList == t.toList) = false := by
    rw [← Bool.not_eq_true, beq_iff_eq, ByteArray.toList_eq, ByteArray.toList_eq]
    exact fun h => hst (ByteArray.ext (Array.toList_inj.1 h))
  obtain ⟨A, cap, hvf, _, _, _⟩ := hv.form
  have hlk := hM.look0 t ht
  rw [hvf] at hlk
  have hdb : d ≠ b := hC.ne_map hM
  obtain ⟨w2, hw2⟩ : ∃ w2, w.drew = w2 := ⟨_, rfl⟩
  have hC2 : Cel w2 d T C := hC.of (by rw [← hw2]; rfl)
  have hM2 : MapV w2 b n V := hM.ofBlock (by rw [← hw2]; rfl)
  have hlk2 := hM2.look0 t ht
  rw [hvf] at hlk2
  have hf2 : Fr (fun k => k = d ∨ k = b) w w2 := by rw [← hw2]; exact Fr.drew w _
  have k0 := (hC2.cell o).trans c0
  have k1 := (hC2.cell (o + 1)).trans c1
  have g1 := hC2.fz (o + 1)
  obtain ⟨w3, hw3⟩ : ∃ w3, w2.setCell ⟨d, o + 1, none⟩ (.int .i64 (used - l.length)) = w3 := ⟨_, rfl⟩
  have hC3 : Cel w3 d T (C.setIfInBounds (o + 1) (.int .i64 (used - l.length))) := by rw [← hw3]; exact hC2.set _ _
  have hM3 : MapV w3 b n V := hM2.ofBlock (by rw [← hw3]; exact Below.heap_setCell w2 ⟨d, o + 1, none⟩ _ b (fun e => hdb e.symm))
  have c03 : (C.setIfInBounds (o + 1) (.int .i64 (used - l.length)))[o]? = some (.map (some b)) := by rw [Array.getElem?_setIfInBounds]; simp [c0]
  have k03 := (hC3.cell o).trans c03
  have hf3 : Fr (fun k => k = d ∨ k = b) w2 w3 := by rw [← hw3]; exact (Fr.set w2 d (o + 1) _).mono (fun i h => .inl (.inl h))
  have hlk3 := hM3.look0 s hs
  rw [hvs] at hlk3
  obtain ⟨w4, hw4⟩ : ∃ w4, w3.drew = w4 := ⟨_, rfl⟩
  have hC4 := hC3.of (w' := w4) (by rw [← hw4]; rfl)
  have hM4 : MapV w4 b n V := hM3.ofBlock (by rw [← hw4]; rfl)
  have k04 := (hC4.cell o).trans c03
  have hlk4 := hM4.look0 s hs
  rw [hvs] at hlk4
  have hf4 : Fr (fun k => k = d ∨ k = b) w3 w4 := by rw [← hw4]; exact Fr.drew w3 _
  obtain ⟨w5, hrun5, hM5, hg5⟩ := hM4.set t ht (by unfold maxLen; omega) v hiv
  have hb5 : w5.heap[d]? = w4.heap[d]? := hg5.block d hC4.lt (fun e => hdb (by injection e))
  have hC5 := hC4.of hb5
  have k05 := (hC5.cell o).trans c03
  obtain ⟨w6, hrun6, hM6, hg6⟩ := hM5.del s hs 0
  have hb6 : w6.heap[d]? = w5.heap[d]? := hg6.block d hC5.lt (fun e => hdb (by injection e))
  clear c0 c1 hvf hvs c03
  have hwr : IntKind.i64.wrap (used - (l.length : Int)) = used - (l.length : Int) := by rw [IntKind.wrap_i64]; omega
  go_enter Try.func46, Try.ntmps46
  go_wp2_with fail
  go_still_tail 14, (by kernel_rfl)
  change wpList _ _ _ _ _ w.drew
  rw [hw2]
  go_wp2_with fail
  go_still_tail 11, (by kernel_rfl)
  change wpList _ _ _ _ _ w3.drew
  rw [hw4]
  go_wp2
  go_end0
  exact ⟨rfl, hC5.of hb6, hM6, (((hf2.trans hf3).trans hf4).trans ((Fr.grown hg5).mono (fun i h => .inl (.inr (by injection h with h; exact h.symm))))).trans ((Fr.grown hg6).mono (fun i h => .inl (.inr (by injection h with h; exact h.symm))))⟩

end Go.Proofs.Ytpljmoiemmaecaa
