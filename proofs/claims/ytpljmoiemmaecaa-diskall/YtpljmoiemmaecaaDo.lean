/- The contract of Read that is done; a change laid upon what is safe. -/
import Derived.Test.YtpljmoiemmaecaaDl
namespace Go.Proofs.Ytpljmoiemmaecaa
open Go.RowKit

set_option maxRecDepth 100000 in
set_option maxHeartbeats 1000000 in
theorem Read_do (w : World) (d B : Nat) (σ : Dv) (s : ByteArray) (v : Value) (l : List Int) (h : DInv w d B σ) (hp : σ.S (.now s) = some (v, l)) (hs : Dx.name s = true) (hoff : σ.off = false) (hl : l.length ≤ 100000000) :
    Calls Try.prog 19 #[.pointer (some ⟨d, 0, none⟩), .string s] w fun e w' => ∃ u, e = .returned (.tuple #[u, .int .i64 0]) ∧ RdB w' u l ∧ (∀ g, u.ownBlock = some g → w.heap.size ≤ g) ∧ Fr (fun _ => False) w w' := by
  have hsm : s.size ≤ maxLen := by have := name_size hs; unfold maxLen; omega
  obtain ⟨W0, hW0⟩ : ∃ W0, w.alloc (.cells #[.string s] 9) = W0 := ⟨_, rfl⟩
  have hf0 : Fr (fun _ => False) w W0 := by rw [← hW0]; exact Fr.alloc w _ _
  have h0 := h.keep hf0
  have hN0 : Cel W0 w.heap.size 9 #[.string s] := by rw [← hW0]; exact heap_alloc_new w _
  have hrdy : Calls Try.prog 31 #[.pointer (some ⟨d, 0, none⟩), .slice (some ⟨w.heap.size, 0, none⟩) 1 1] W0 fun e w' => e = .returned (.int .i64 0) ∧ W0 = w' := by
    have := ready_any σ.mn σ.ms σ.un σ.us σ.room σ.fuse σ.steps σ.pv σ.off W0 d [s] (some ⟨w.heap.size, 0, none⟩) 1 h0.cel (.inr ⟨_, 0, rfl, fun i x hi => by
      match i, hi with
      | 0, hi => simp at hi; subst hi; exact hN0.cell 0
      | i + 1, hi => simp at hi⟩) (by simp) (fun x hx => by simp at hx; subst hx; exact hsm)
    simp only [readyR, List.all_cons, hs, List.all_nil, Bool.and_true, hoff, if_true] at this
    exact this
  have hhas := has_any W0 d 0 61 σ.cells σ.mn σ.nn (vnow σ.S) s h0.cel rfl h0.fn hsm
  have hsome : (vnow σ.S s).isSome = true := by unfold vnow; rw [hp]; rfl
  rw [hsome] at hhas
  have hlk := h0.fn.look s hsm W0 (fun _ _ => rfl)
  have hvs : (vnow σ.S s).getD nilS = v := by unfold vnow; rw [hp]; rfl
  obtain ⟨A, cap, hvf, hA, _, hrd⟩ := (h0.fam.rd _ _ _ hp).form
  rw [hvs, hvf] at hlk
  have c0 := (h0.cel.cell 0).trans dc0
  have HR := Lib.hid hrdy
  have HH := Lib.hid hhas
  have HW := Lib.hid hW0
  clear hrdy hhas hW0 hoff hp hsome hvs hvf
  go_enter Try.func19, Try.ntmps19
  go_wp2_with fail
  rw [HW.out]
  refine HR.out.mono ?_
  rintro e w' ⟨rfl, rfl⟩
  go_wp2_with fail
  refine HH.out.mono ?_
  rintro e w' ⟨rfl, rfl⟩
  go_wp2_with fail
  refine (Clone_any l A cap _ hrd hA hl).mono ?_
  rintro e w2 ⟨u, rfl, hru, hfru, hf2⟩
  go_wp2
  go_ret2
  exact ⟨u, rfl, hru, fun g e => Nat.le_trans hf0.size (hfru g e), hf0.trans hf2⟩

/-- the disk behind a change that was laid upon what is safe: all else is as it was -/
structure SafeStep (w : World) (d B : Nat) (σ σ' : Dv) (w' : World) : Prop where
  inv : DInv w' d B σ'
  fr : Fr (foot d σ) w w'
  ft : ∀ k, foot d σ' k → foot d σ k ∨ w.heap.size ≤ k
  now : ∀ x, σ'.S (.now x) = σ.S (.now x)
  pen : ∀ i, σ'.S (.pend i) = σ.S (.pend i)
  rest : σ' = { σ with S := σ'.S, ms := σ'.ms, ns := σ'.ns, us := σ'.us }

theorem cells_set23 (σ : Dv) (b : Nat) (x : Int) : (σ.cells.setIfInBounds 2 (.map (some b))).setIfInBounds (2 + 1) (.int .i64 x) = dc σ.mn σ.un (some b) x σ.pv σ.room σ.fuse σ.steps σ.off := rfl
theorem cells_set3 (σ : Dv) (b : Nat) (hms : σ.ms = some b) (x : Int) : σ.cells.setIfInBounds (2 + 1) (.int .i64 x) = dc σ.mn σ.un (some b) x σ.pv σ.room σ.fuse σ.steps σ.off := by
  unfold Dv.cells
  rw [hms]
  rfl

theorem safe_write (w : World) (d B : Nat) (σ : Dv) (i : Nat) (c : Ch) (data l : List Int) (v0 : Value) (h : DInv w d B σ) (hk : c.k = 0) (hi : σ.S (.pend i) = some (.slice c.A c.n c.c, data)) (hcn : c.n = data.length) (hp : (σ.S (.safe c.s)).getD (nilS, []) = (v0, l)) (hs : c.s.size ≤ maxLen)
    (hl : l.length + data.length ≤ 100000000) (hu : 0 ≤ σ.us ∧ σ.us ≤ 1000000000000) (hn : σ.ns < 1000000) :
    Calls Try.prog 41 #[.pointer (some ⟨d, 2, none⟩), c.val] w fun e w' => e = .returned (.tuple #[]) ∧ ∃ b v', SafeStep w d B σ { σ with S := upd σ.S (.safe c.s) (some (v', l ++ data)), ms := some b, ns := σ.ns + 1, us := σ.us + data.length } w' := by
  have hv0 : (vsafe σ.S c.s).getD nilS = v0 := by
    unfold vsafe
    cases hS : σ.S (.safe c.s) with
    | none => rw [hS] at hp; cases hp; rfl
    | some x => rw [hS] at hp; cases hp; rfl
  have hrd0 : RdB w v0 l := by
    cases hS : σ.S (.safe c.s) with
    | none => rw [hS] at hp; cases hp; exact RdB.nil
    | some x => rw [hS] at hp; cases hp; exact h.fam.rd _ _ _ hS
  have hf0 : ∀ k, (k = d ∨ σ.ms = some k ∨ v0.ownBlock = some k) → foot d σ k := by
    rintro k (hk | hk | hk)
    · exact .inl hk
    · exact .inr (.inr (.inl hk))
    · cases hS : σ.S (.safe c.s) with
      | none => rw [hS] at hp; cases hp; cases hk
      | some x => rw [hS] at hp; cases hp; exact .inr (.inr (.inr (.inr ⟨_, _, _, hS, hk⟩)))
  have hd := h.fam.rd _ _ _ hi
  unfold Ch.val
  rw [hk, hcn]
  rw [hcn] at hd
  refine (apply_write w d 2 61 σ.cells σ.ms σ.ns (vsafe σ.S) c.s c.t l data σ.us c.A c.c h.cel (by decide) rfl rfl h.fs hs hn (by rw [hv0]; exact hrd0) hd hl hu).mono ?_
  rintro e w2 ⟨rfl, b, v', hC2, hM2, hb2, hr2, hat2, hst2, hfr2⟩
  rw [cells_set23] at hC2
  rw [hv0] at hat2 hst2 hfr2
  refine ⟨rfl, b, v', ⟨hC2, ?_, ?_, h.fam.append _ hp hat2 hr2 hst2, ?_, ?_, ?_, ?_⟩, hfr2.mono (fun i hk => .inl (hf0 i hk)), ?_, fun x => (by show upd σ.S (.safe c.s) (some (v', l ++ data)) (.now x) = _; rw [upd_other _ _ (by simp)]), fun x => (by show upd σ.S (.safe c.s) (some (v', l ++ data)) (.pend x) = _; rw [upd_other _ _ (by simp)]), rfl⟩
  · have hV : vnow (upd σ.S (.safe c.s) (some (v', l ++ data))) = vnow σ.S := by
      funext x
      unfold vnow
      rw [upd_other _ _ (by simp)]
    show Files w2 σ.mn σ.nn (vnow (upd σ.S (.safe c.s) (some (v', l ++ data))))
    rw [hV]
    exact h.fn.fr hfr2 (fun b' e => by
      rintro (hk | hk | hk)
      · exact h.cel.ne_map (h.fn.map e) hk.symm
      · exact h.mm _ e hk
      · exact map_ne_rd (h.fn.map e) hrd0 hk)
  · refine .inr ⟨b, rfl, ?_⟩
    have hV : vsafe (upd σ.S (.safe c.s) (some (v', l ++ data))) = fun x => if x = c.s then some v' else vsafe σ.S x := by
      funext x
      unfold vsafe
      by_cases hx : x = c.s
      · subst hx; rw [upd_same]; simp
      · rw [upd_other _ _ (by simpa using hx)]; simp [hx]
    show MapV w2 b (σ.ns + 1) (vsafe (upd σ.S (.safe c.s) (some (v', l ++ data))))
    rw [hV]
    exact hM2
  · intro b' e e'
    cases e'
    rcases hb2 with hb | ⟨_, hge⟩
    · exact h.mm _ e hb
    · have := h.fn.lt e
      omega
  · exact own_fr h.row hfr2 (fun g e => by
      rintro (hk | hk | hk)
      · exact row_ne h.row h.cel (by decide) (by rw [e, hk])
      · exact row_ne_map h.row (h.fs.map hk) e
      · exact row_ne_rd h.row hrd0 e hk)
  · intro j c' hj
    obtain ⟨l', e1, e2⟩ := h.pend j c' hj
    exact ⟨l', by show upd σ.S (.safe c.s) (some (v', l ++ data)) (.pend j) = _; rw [upd_other _ _ (by simp)]; exact e1, e2⟩
  · intro j hj
    show upd σ.S (.safe c.s) (some (v', l ++ data)) (.pend j) = _
    rw [upd_other _ _ (by simp)]
    exact h.pend0 j hj
  · rintro k (hk | hk | hk | hk | ⟨p, u, m, e, hk⟩)
    · exact .inl (.inl hk)
    · exact .inl (.inr (.inl hk))
    · cases hk
      rcases hb2 with hb | ⟨_, hge⟩
      · exact .inl (.inr (.inr (.inl hb)))
      · exact .inr hge
    · exact .inl (.inr (.inr (.inr (.inl hk))))
    · have e : upd σ.S (.safe c.s) (some (v', l ++ data)) p = some (u, m) := e
      by_cases hps : p = .safe c.s
      · subst hps
        rw [upd_same] at e
        cases e
        rcases hat2.own with ho | ⟨g', ho, hge⟩
        · rw [ho] at hk
          exact .inl (hf0 k (.inr (.inr hk)))
        · rw [ho] at hk
          cases hk
          exact .inr hge
      · rw [upd_other _ _ hps] at e
        exact .inl (.inr (.inr (.inr (.inr ⟨p, u, m, e, hk⟩))))

end Go.Proofs.Ytpljmoiemmaecaa
