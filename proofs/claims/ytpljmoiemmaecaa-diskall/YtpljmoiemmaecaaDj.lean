/- The contract of a disk's Write that is done. -/
import Derived.Test.YtpljmoiemmaecaaDi
namespace Go.Proofs.Ytpljmoiemmaecaa
open Go.RowKit

theorem Files.len {w : World} {m : Option Nat} {n : Nat} {V : ByteArray → Option Value} (h : Files w m n V) (W : World) (hW : ∀ b, m = some b → W.heap[b]? = w.heap[b]?) (ty : TypeId) : ∃ k : Nat, k ≤ n ∧ (Builtin.len_ #[56] ty #[.map m]).run Try.prog W = .ok (.int .i64 k) W := by
  rcases h with ⟨rfl, _⟩ | ⟨b, rfl, h⟩
  · exact ⟨0, Nat.zero_le _, Maps.len_nil Try.underlying56 ty⟩
  · exact (h.ofBlock (hW b rfl)).len ty
theorem name_size {s : ByteArray} (h : Dx.name s = true) : 1 ≤ s.size ∧ s.size ≤ 80 := by
  unfold Dx.name at h
  rw [Bool.and_eq_true, decide_eq_true_eq] at h
  exact h.1

/-- what a Write leaves that is done, but for the fuse -/
def WritePost (w : World) (d B : Nat) (σ : Dv) (s : ByteArray) (data l : List Int) (code fuse' steps' : Int) (off' : Bool) (e : Ending) (w' : World) : Prop :=
  e = .returned (.int .i64 code) ∧ ∃ A cc b v' pv', DInv w' d B { σ with S := upd (upd σ.S (.now s) (some (v', l ++ data))) (.pend σ.cs.length) (some (.slice A data.length cc, data)), mn := some b, nn := σ.nn + 1, un := σ.un + data.length, pv := pv', cs := σ.cs ++ [⟨0, s, ⟨#[]⟩, A, data.length, cc⟩], fuse := fuse', steps := steps', off := off' } ∧ Fr (foot d σ) w w' ∧
    ∀ k, foot d { σ with S := upd (upd σ.S (.now s) (some (v', l ++ data))) (.pend σ.cs.length) (some (.slice A data.length cc, data)), mn := some b, pv := pv' } k → foot d σ k ∨ w.heap.size ≤ k

set_option maxRecDepth 100000 in
set_option maxHeartbeats 1000000 in
theorem Write_do (w : World) (d B : Nat) (σ : Dv) (s : ByteArray) (A0 : Option Addr) (cap0 : Nat) (data l : List Int) (v0 : Value) (h : DInv w d B σ) (hB : B ≤ w.heap.size) (hp : (σ.S (.now s)).getD (nilS, []) = (v0, l)) (hs : Dx.name s = true) (hoff : σ.off = false)
    (hd : Rd w .u8 A0 data) (hA0 : A0 = none → cap0 = 0) (hl : l.length + data.length ≤ 100000000) (hu : 0 ≤ σ.un ∧ σ.un + data.length ≤ σ.room ∧ σ.room ≤ 1000000000) (hn : σ.nn < 2000) (hc : σ.cs.length ≤ 1000000)
    (code fuse' steps' : Int) (off' : Bool)
    (hst : ∀ w3 pv' mn un, Cel w3 d 61 (dc mn un σ.ms σ.us pv' σ.room σ.fuse σ.steps σ.off) → Calls Try.prog 35 #[.pointer (some ⟨d, 0, none⟩)] w3 fun e w4 => e = .returned (.int .i64 code) ∧ Cel w4 d 61 (dc mn un σ.ms σ.us pv' σ.room fuse' steps' off') ∧ Fr (fun k => k = d) w3 w4) :
    Calls Try.prog 15 #[.pointer (some ⟨d, 0, none⟩), .string s, .slice A0 data.length cap0] w (WritePost w d B σ s data l code fuse' steps' off') := by
  have hsz := name_size hs
  have hsm : s.size ≤ maxLen := by unfold maxLen; omega
  obtain ⟨W0, hW0⟩ : ∃ W0, w.alloc (.cells #[.string s] 9) = W0 := ⟨_, rfl⟩
  have hf0 : Fr (fun _ => False) w W0 := by rw [← hW0]; exact Fr.alloc w _ _
  have h0 := h.keep hf0
  have hN0 : Cel W0 w.heap.size 9 #[.string s] := by rw [← hW0]; exact heap_alloc_new w _
  have hrdy : Calls Try.prog 31 #[.pointer (some ⟨d, 0, none⟩), .slice (some ⟨w.heap.size, 0, none⟩) 1 1] W0 fun e w' => e = .returned (.int .i64 0) ∧ W0 = w' := by
    have := ready_any σ.mn σ.ms σ.un σ.us σ.room σ.fuse σ.steps σ.pv σ.off W0 d [s] (some ⟨w.heap.size, 0, none⟩) 1 h0.cel (.inr ⟨_, 0, rfl, fun i x hi => by
      match i, hi with
      | 0, hi => simp at hi; subst hi; exact hN0.cell 0
      | i + 1, hi => simp at hi⟩) (by simp) (fun x hx => by simp at hx; subst hx; exact hsm)
    simp only [readyR, List.all_cons, hs, List.all_nil, Bool.and_true, hoff, if_true] at this
    exact this
  have hhas := has_any W0 d 0 61 σ.cells σ.mn σ.nn (vnow σ.S) s h0.cel rfl h0.fn hsm
  have hdw : Rd W0 .u8 A0 data := hd.keep hf0.size (fun p hp => World.cell?_of_block (hf0.block p.block hp (fun h => h)))
  obtain ⟨lk, hlk, hlen⟩ := h0.fn.len W0 (fun _ _ => rfl) 3
  have c0 := (h0.cel.cell 0).trans dc0
  have HR := Lib.hid hrdy
  have HH := Lib.hid hhas
  have HST := Lib.hid hst
  have HP := Lib.hid hp
  have HW := Lib.hid hW0
  have tl : decide ((2000 : Int) ≤ (lk : Int)) = false := by simp; omega
  have tl2 : decide ((lk : Int) ≥ 2000) = false := by simp; omega
  clear hrdy hhas hst hp hW0 hoff
  go_enter Try.func15, Try.ntmps15
  go_wp2_with fail
  rw [HW.out]
  refine HR.out.mono ?_
  rintro e w' ⟨rfl, rfl⟩
  go_wp2_with fail
  refine HH.out.mono ?_
  rintro e w' ⟨rfl, rfl⟩
  cases hsome : (vnow σ.S s).isSome
  all_goals
    go_wp2_with fail
    refine (Free_any σ.mn σ.ms σ.un σ.us σ.room σ.fuse σ.steps σ.pv σ.off W0 d h0.cel (by omega) hu.2.2).mono ?_
    rintro e w' ⟨rfl, n1, rfl⟩
    have hcmp : decide ((σ.room - σ.un : Int) < (data.length : Int)) = false := by simp; omega
    go_wp2_with fail
    refine (Clone_any data A0 cap0 _ (hdw.below (below_drewN (Below.refl _ _) n1)) hA0 (by omega)).mono ?_
    rintro e w2 ⟨vv, rfl, hrv, hfrv, hf2⟩
    obtain ⟨A1, c1, rfl, _, _, _⟩ := hrv.form
    have h2 : DInv w2 d B σ := (h0.keep (Fr.drewN W0 n1 _)).keep hf2
    have hsz2 : w.heap.size ≤ w2.heap.size := Nat.le_trans hf0.size hf2.size
    go_wp2_with fail
    refine (show Calls Try.prog 33 #[.pointer (some ⟨d, 0, none⟩), chg 0 s ⟨#[]⟩ (.slice A1 data.length c1)] w2 _ from change_write w2 d B σ s ⟨#[]⟩ A1 c1 data l v0 h2 (Nat.le_trans hB hsz2) HP.out hsm hrv (fun g e hk => ?_) hl (by omega) (by omega) hc code fuse' steps' off' HST.out).mono ?_
    · have h5 := hfrv g e
      have h6 := h0.foot_lt hk
      have h7 : (W0.drewN n1).heap.size = W0.heap.size := rfl
      omega
    · rintro e w3 ⟨rfl, b, v', pv', hD, hF, hft⟩
      go_wp2
      go_ret
      refine ⟨rfl, A1, c1, b, v', pv', hD, ?_, fun k hk => ?_⟩
      · exact (((hf0.mono (fun _ h => h.elim)).trans (Fr.drewN W0 n1 _)).trans (hf2.mono (fun _ h => h.elim))).trans hF
      · rcases hft k hk with hk | hk | hk
        · exact .inl hk
        · have h5 := hfrv k hk
          have h7 : (W0.drewN n1).heap.size = W0.heap.size := rfl
          have h8 := hf0.size
          exact .inr (by omega)
        · exact .inr (by omega)

end Go.Proofs.Ytpljmoiemmaecaa
