/- The contract of Read that is done; a change laid upon what is safe. A move and a drop that become safe. settle, over a disk in memory. The contracts of Sync. What Crash does to a disk in memory: a change cut, and what is safe twinned. The contract of Crash. The contract of Crash, where the next change is looked at. The contract of Crash, where the next change is a write and torn. -/
import Derived.Test.YtbdmlenapccdnaaJoin2
namespace Go.Proofs.Ytbdmlenapccdnaa
open Go.RowKit

set_option maxRecDepth 100000 in
set_option maxHeartbeats 1000000 in
theorem Read_do (w : World) (d B : Nat) (σ : Dv) (s : ByteArray) (v : Value) (l : List Int) (h : DInv w d B σ) (hp : σ.S (.now s) = some (v, l)) (hs : Dx.name s = true) (hoff : σ.off = false) (hl : l.length ≤ 100000000) :
    Calls Try.prog 17 #[.pointer (some ⟨d, 0, none⟩), .string s] w fun e w' => ∃ u, e = .returned (.tuple #[u, .int .i64 0]) ∧ RdB w' u l ∧ (∀ g, u.ownBlock = some g → w.heap.size ≤ g) ∧ Fr (fun _ => False) w w' := by
  have hsm : s.size ≤ maxLen := by have := name_size hs; unfold maxLen; omega
  obtain ⟨W0, hW0⟩ : ∃ W0, w.alloc (.cells #[.string s] 9) = W0 := ⟨_, rfl⟩
  have hf0 : Fr (fun _ => False) w W0 := by rw [← hW0]; exact Fr.alloc w _ _
  have h0 := h.keep hf0
  have hN0 : Cel W0 w.heap.size 9 #[.string s] := by rw [← hW0]; exact heap_alloc_new w _
  have hrdy : Calls Try.prog 37 #[.pointer (some ⟨d, 0, none⟩), .slice (some ⟨w.heap.size, 0, none⟩) 1 1] W0 fun e w' => e = .returned (.int .i64 0) ∧ W0 = w' := by
    have := ready_any σ.mn σ.ms σ.un σ.us σ.room σ.fuse σ.steps σ.pv σ.off W0 d [s] (some ⟨w.heap.size, 0, none⟩) 1 h0.cel (.inr ⟨_, 0, rfl, fun i x hi => by
      match i, hi with
      | 0, hi => simp at hi; subst hi; exact hN0.cell 0
      | i + 1, hi => simp at hi⟩) (by simp) (fun x hx => by simp at hx; subst hx; exact hsm)
    simp only [readyR, List.all_cons, hs, List.all_nil, Bool.and_true, hoff, if_true] at this
    exact this
  have hhas := has_any W0 d 0 75 σ.cells σ.mn σ.nn (vnow σ.S) s h0.cel rfl h0.fn hsm
  have hsome : (vnow σ.S s).isSome = true := by unfold vnow; rw [hp]; rfl
  rw [hsome] at hhas
  have hlk := h0.fn.look s hsm W0 (fun _ _ => rfl)
  have hvs : (vnow σ.S s).getD nilS = v := by unfold vnow; rw [hp]; rfl
  obtain ⟨A, cap, hvf, hA, _, hrd⟩ := (h0.fam.rd _ _ _ hp).form
  rw [hvs, hvf] at hlk
  have c0 := (h0.cel.cell 0).trans dc0
  have HR := Lib.hid hrdy
  have HH := Lib.hid hhas
  have HW := Lib.hid hW0
  clear hrdy hhas hW0 hoff hp hsome hvs hvf
  go_enter Try.func17, Try.ntmps17
  go_wp2_with fail
  rw [HW.out]
  refine HR.out.mono ?_
  rintro e w' ⟨rfl, rfl⟩
  go_wp2_with fail
  refine HH.out.mono ?_
  rintro e w' ⟨rfl, rfl⟩
  go_wp2_with fail
  refine (Clone_any l A cap _ hrd hA hl).mono ?_
  rintro e w2 ⟨u, rfl, hru, hfru, hf2⟩
  go_wp2
  go_ret2
  exact ⟨u, rfl, hru, fun g e => Nat.le_trans hf0.size (hfru g e), hf0.trans hf2⟩

/-- the disk behind a change that was laid upon what is safe: all else is as it was -/
structure SafeStep (w : World) (d B : Nat) (σ σ' : Dv) (w' : World) : Prop where
  inv : DInv w' d B σ'
  fr : Fr (foot d σ) w w'
  ft : ∀ k, foot d σ' k → foot d σ k ∨ w.heap.size ≤ k
  now : ∀ x, σ'.S (.now x) = σ.S (.now x)
  pen : ∀ i, σ'.S (.pend i) = σ.S (.pend i)
  rest : σ' = { σ with S := σ'.S, ms := σ'.ms, ns := σ'.ns, us := σ'.us }

theorem cells_set23 (σ : Dv) (b : Nat) (x : Int) : (σ.cells.setIfInBounds 2 (.map (some b))).setIfInBounds (2 + 1) (.int .i64 x) = dc σ.mn σ.un (some b) x σ.pv σ.room σ.fuse σ.steps σ.off := rfl
theorem cells_set3 (σ : Dv) (b : Nat) (hms : σ.ms = some b) (x : Int) : σ.cells.setIfInBounds (2 + 1) (.int .i64 x) = dc σ.mn σ.un (some b) x σ.pv σ.room σ.fuse σ.steps σ.off := by
  unfold Dv.cells
  rw [hms]
  rfl

theorem safe_write (w : World) (d B : Nat) (σ : Dv) (i : Nat) (c : Ch) (data l : List Int) (v0 : Value) (h : DInv w d B σ) (hk : c.k = 0) (hi : σ.S (.pend i) = some (.slice c.A c.n c.c, data)) (hcn : c.n = data.length) (hp : (σ.S (.safe c.s)).getD (nilS, []) = (v0, l)) (hs : c.s.size ≤ maxLen)
    (hl : l.length + data.length ≤ 100000000) (hu : 0 ≤ σ.us ∧ σ.us ≤ 1000000000000) (hn : σ.ns < 1000000) :
    Calls Try.prog 54 #[.pointer (some ⟨d, 2, none⟩), c.val] w fun e w' => e = .returned (.tuple #[]) ∧ ∃ b v', SafeStep w d B σ { σ with S := upd σ.S (.safe c.s) (some (v', l ++ data)), ms := some b, ns := σ.ns + 1, us := σ.us + data.length } w' := by
  have hv0 : (vsafe σ.S c.s).getD nilS = v0 := by
    unfold vsafe
    cases hS : σ.S (.safe c.s) with
    | none => rw [hS] at hp; cases hp; rfl
    | some x => rw [hS] at hp; cases hp; rfl
  have hrd0 : RdB w v0 l := by
    cases hS : σ.S (.safe c.s) with
    | none => rw [hS] at hp; cases hp; exact RdB.nil
    | some x => rw [hS] at hp; cases hp; exact h.fam.rd _ _ _ hS
  have hf0 : ∀ k, (k = d ∨ σ.ms = some k ∨ v0.ownBlock = some k) → foot d σ k := by
    rintro k (hk | hk | hk)
    · exact .inl hk
    · exact .inr (.inr (.inl hk))
    · cases hS : σ.S (.safe c.s) with
      | none => rw [hS] at hp; cases hp; cases hk
      | some x => rw [hS] at hp; cases hp; exact .inr (.inr (.inr (.inr ⟨_, _, _, hS, hk⟩)))
  have hd := h.fam.rd _ _ _ hi
  unfold Ch.val
  rw [hk, hcn]
  rw [hcn] at hd
  refine (apply_write w d 2 75 σ.cells σ.ms σ.ns (vsafe σ.S) c.s c.t l data σ.us c.A c.c h.cel (by decide) rfl rfl h.fs hs hn (by rw [hv0]; exact hrd0) hd hl hu).mono ?_
  rintro e w2 ⟨rfl, b, v', hC2, hM2, hb2, hr2, hat2, hst2, hfr2⟩
  rw [cells_set23] at hC2
  rw [hv0] at hat2 hst2 hfr2
  refine ⟨rfl, b, v', ⟨hC2, ?_, ?_, h.fam.append _ hp hat2 hr2 hst2, ?_, ?_, ?_, ?_⟩, hfr2.mono (fun i hk => .inl (hf0 i hk)), ?_, fun x => (by show upd σ.S (.safe c.s) (some (v', l ++ data)) (.now x) = _; rw [upd_other _ _ (by simp)]), fun x => (by show upd σ.S (.safe c.s) (some (v', l ++ data)) (.pend x) = _; rw [upd_other _ _ (by simp)]), rfl⟩
  · have hV : vnow (upd σ.S (.safe c.s) (some (v', l ++ data))) = vnow σ.S := by
      funext x
      unfold vnow
      rw [upd_other _ _ (by simp)]
    show Files w2 σ.mn σ.nn (vnow (upd σ.S (.safe c.s) (some (v', l ++ data))))
    rw [hV]
    exact h.fn.fr hfr2 (fun b' e => by
      rintro (hk | hk | hk)
      · exact h.cel.ne_map (h.fn.map e) hk.symm
      · exact h.mm _ e hk
      · exact map_ne_rd (h.fn.map e) hrd0 hk)
  · refine .inr ⟨b, rfl, ?_⟩
    have hV : vsafe (upd σ.S (.safe c.s) (some (v', l ++ data))) = fun x => if x = c.s then some v' else vsafe σ.S x := by
      funext x
      unfold vsafe
      by_cases hx : x = c.s
      · subst hx; rw [upd_same]; simp
      · rw [upd_other _ _ (by simpa using hx)]; simp [hx]
    show MapV w2 b (σ.ns + 1) (vsafe (upd σ.S (.safe c.s) (some (v', l ++ data))))
    rw [hV]
    exact hM2
  · intro b' e e'
    cases e'
    rcases hb2 with hb | ⟨_, hge⟩
    · exact h.mm _ e hb
    · have := h.fn.lt e
      omega
  · exact own_fr h.row hfr2 (fun g e => by
      rintro (hk | hk | hk)
      · exact row_ne h.row h.cel (by decide) (by rw [e, hk])
      · exact row_ne_map h.row (h.fs.map hk) e
      · exact row_ne_rd h.row hrd0 e hk)
  · intro j c' hj
    obtain ⟨l', e1, e2⟩ := h.pend j c' hj
    exact ⟨l', by show upd σ.S (.safe c.s) (some (v', l ++ data)) (.pend j) = _; rw [upd_other _ _ (by simp)]; exact e1, e2⟩
  · intro j hj
    show upd σ.S (.safe c.s) (some (v', l ++ data)) (.pend j) = _
    rw [upd_other _ _ (by simp)]
    exact h.pend0 j hj
  · rintro k (hk | hk | hk | hk | ⟨p, u, m, e, hk⟩)
    · exact .inl (.inl hk)
    · exact .inl (.inr (.inl hk))
    · cases hk
      rcases hb2 with hb | ⟨_, hge⟩
      · exact .inl (.inr (.inr (.inl hb)))
      · exact .inr hge
    · exact .inl (.inr (.inr (.inr (.inl hk))))
    · have e : upd σ.S (.safe c.s) (some (v', l ++ data)) p = some (u, m) := e
      by_cases hps : p = .safe c.s
      · subst hps
        rw [upd_same] at e
        cases e
        rcases hat2.own with ho | ⟨g', ho, hge⟩
        · rw [ho] at hk
          exact .inl (hf0 k (.inr (.inr hk)))
        · rw [ho] at hk
          cases hk
          exact .inr hge
      · rw [upd_other _ _ hps] at e
        exact .inl (.inr (.inr (.inr (.inr ⟨p, u, m, e, hk⟩))))

end Go.Proofs.Ytbdmlenapccdnaa
namespace Go.Proofs.Ytbdmlenapccdnaa
open Go.RowKit

/-- the family behind a move, and behind a drop, of the safe files -/
def famMoveS (S : Fam) (s t : ByteArray) : Fam := fun q => if q = .safe s then none else if q = .safe t then S (.safe s) else S q
def famDropS (S : Fam) (s : ByteArray) : Fam := upd S (.safe s) none
theorem famMoveS_ok {w : World} {S : Fam} (h : FamOk w S) (s t : ByteArray) : FamOk w (famMoveS S s t) := by
  refine h.sub (fun q => if q = .safe t then .safe s else q) (fun p x e => ?_) (fun p q x y e e' hpq => ?_) (fun p => by
    by_cases hp : p = .safe t
    · simp [hp, Slot.live]
    · simp [hp])
  · unfold famMoveS at e
    split at e
    · cases e
    · split at e
      · rename_i h1 h2
        simpa [h2] using e
      · rename_i h1 h2
        simpa [h2] using e
  · unfold famMoveS at e e'
    by_cases hp : p = .safe t
    · by_cases hq : q = .safe t
      · exact absurd (hp.trans hq.symm) hpq
      · by_cases hqs : q = .safe s
        · rw [if_pos hqs] at e'; cases e'
        · simp only [if_pos hp, if_neg hq]
          exact fun e => hqs e.symm
    · by_cases hps : p = .safe s
      · rw [if_pos hps] at e; cases e
      · by_cases hq : q = .safe t
        · simp only [if_neg hp, if_pos hq]
          exact hps
        · simp only [if_neg hp, if_neg hq]
          exact hpq

theorem ms_some {w : World} {d B : Nat} {σ : Dv} (h : DInv w d B σ) {s : ByteArray} {x : Value × List Int} (e : σ.S (.safe s) = some x) : ∃ b, σ.ms = some b := by
  rcases h.fs with ⟨_, hV⟩ | ⟨b, hb, _⟩
  · have := congrFun hV s
    unfold vsafe at this
    rw [e] at this
    cases this
  · exact ⟨b, hb⟩

/-- a step that turns the map of safe alone, and lays no bytes -/
theorem safe_plain {w w2 : World} {d B : Nat} {σ : Dv} {b : Nat} {ns' : Nat} {us' : Int} {S' : Fam} (h : DInv w d B σ) (hms : σ.ms = some b)
    (hS : FamOk w S') (hS1 : ∀ p v l, S' p = some (v, l) → ∃ q, σ.S q = some (v, l)) (hS2 : ∀ x, S' (.now x) = σ.S (.now x)) (hS3 : ∀ i, S' (.pend i) = σ.S (.pend i))
    (hC2 : Cel w2 d 75 (dc σ.mn σ.un (some b) us' σ.pv σ.room σ.fuse σ.steps σ.off)) (hM2 : MapV w2 b ns' (vsafe S')) (hf2 : Fr (fun k => k = d ∨ k = b) w w2) :
    SafeStep w d B σ { σ with S := S', ns := ns', us := us' } w2 := by
  have hup2 : ∀ u k, RdB w u k → RdB w2 u k := fun u k hu => hu.fr hf2 (fun g e => by
    rintro (hk | hk)
    · exact h.cel.ne_rd hu (by decide) (by rw [e, hk])
    · exact map_ne_rd (h.fs.map hms) hu (by rw [e, hk]))
  refine ⟨⟨by rw [← hms] at hC2; exact hC2, ?_, ?_, hS.keep (fun p u k e => hup2 u k (hS.rd p u k e)), h.mm, ?_, ?_, ?_⟩, hf2.mono (fun i hk => .inl ?_), ?_, hS2, hS3, rfl⟩
  · have hV : vnow S' = vnow σ.S := by
      funext x
      unfold vnow
      rw [hS2]
    show Files w2 σ.mn σ.nn (vnow S')
    rw [hV]
    exact h.fn.fr hf2 (fun b' e => by
      rintro (hk | hk)
      · exact h.cel.ne_map (h.fn.map e) hk.symm
      · exact h.mm _ e (by rw [hk]; exact hms))
  · exact .inr ⟨b, hms, hM2⟩
  · exact own_fr h.row hf2 (fun g e => by
      rintro (hk | hk)
      · exact row_ne h.row h.cel (by decide) (by rw [e, hk])
      · exact row_ne_map h.row (h.fs.map hms) (by rw [e, hk]))
  · intro j c' hj
    obtain ⟨l', e1, e2⟩ := h.pend j c' hj
    exact ⟨l', by show S' (.pend j) = _; rw [hS3]; exact e1, e2⟩
  · intro j hj
    show S' (.pend j) = _
    rw [hS3]
    exact h.pend0 j hj
  · rcases hk with hk | hk
    · exact .inl hk
    · exact .inr (.inr (.inl (by rw [hk]; exact hms)))
  · rintro k (hk | hk | hk | hk | ⟨p, u, m, e, hk⟩)
    · exact .inl (.inl hk)
    · exact .inl (.inr (.inl hk))
    · exact .inl (.inr (.inr (.inl hk)))
    · exact .inl (.inr (.inr (.inr (.inl hk))))
    · obtain ⟨q, hq⟩ := hS1 p u m e
      exact .inl (.inr (.inr (.inr (.inr ⟨q, u, m, hq, hk⟩))))

theorem safe_drop (w : World) (d B : Nat) (σ : Dv) (c : Ch) (v : Value) (l : List Int) (h : DInv w d B σ) (hk : c.k = 2) (hiv : isS (.slice c.A c.n c.c) = true) (hp : σ.S (.safe c.s) = some (v, l)) (hs : c.s.size ≤ maxLen) (hl : l.length ≤ 100000000) (hu : 0 ≤ σ.us ∧ σ.us ≤ 1000000000000) :
    Calls Try.prog 54 #[.pointer (some ⟨d, 2, none⟩), c.val] w fun e w' => e = .returned (.tuple #[]) ∧ SafeStep w d B σ { σ with S := famDropS σ.S c.s, ns := σ.ns, us := σ.us - l.length } w' := by
  obtain ⟨b, hms⟩ := ms_some h hp
  have hvs : (vsafe σ.S c.s).getD nilS = v := by unfold vsafe; rw [hp]; rfl
  unfold Ch.val
  rw [hk]
  refine (apply_drop w d 2 75 σ.cells b σ.ns (vsafe σ.S) c.s c.t l σ.us (.slice c.A c.n c.c) h.cel (by unfold Dv.cells; rw [hms]; rfl) rfl (h.fs.map hms) hs (by rw [hvs]; exact h.fam.rd _ _ _ hp) hl hu hiv).mono ?_
  rintro e w2 ⟨rfl, hC2, hM2, hf2⟩
  rw [cells_set3 σ b hms] at hC2
  refine ⟨rfl, safe_plain h hms (h.fam.drop _) (fun p u k e => ?_) (fun x => upd_other _ _ (by simp)) (fun i => upd_other _ _ (by simp)) hC2 ?_ hf2⟩
  · unfold famDropS at e
    by_cases hq : p = .safe c.s
    · subst hq; rw [upd_same] at e; cases e
    · rw [upd_other _ _ hq] at e; exact ⟨p, e⟩
  · have hV : vsafe (famDropS σ.S c.s) = fun x => if x = c.s then none else vsafe σ.S x := by
      funext x
      unfold vsafe famDropS upd
      by_cases hx : x = c.s
      · subst hx; simp
      · simp [hx]
    rw [hV]
    exact hM2

theorem safe_move (w : World) (d B : Nat) (σ : Dv) (c : Ch) (v v1 : Value) (l l1 : List Int) (h : DInv w d B σ) (hk : c.k = 1) (hiv : isS (.slice c.A c.n c.c) = true) (hp : σ.S (.safe c.s) = some (v, l)) (ht1 : (σ.S (.safe c.t)).getD (nilS, []) = (v1, l1)) (hst0 : c.s ≠ c.t) (hs : c.s.size ≤ maxLen) (ht : c.t.size ≤ maxLen) (hl : l1.length ≤ 100000000) (hu : 0 ≤ σ.us ∧ σ.us ≤ 1000000000000) (hn : σ.ns < 1000000) :
    Calls Try.prog 54 #[.pointer (some ⟨d, 2, none⟩), c.val] w fun e w' => e = .returned (.tuple #[]) ∧ SafeStep w d B σ { σ with S := famMoveS σ.S c.s c.t, ns := σ.ns + 1, us := σ.us - l1.length } w' := by
  obtain ⟨b, hms⟩ := ms_some h hp
  have hvs : (vsafe σ.S c.s).getD nilS = v := by unfold vsafe; rw [hp]; rfl
  have hvt : (vsafe σ.S c.t).getD nilS = v1 := by
    unfold vsafe
    cases hS : σ.S (.safe c.t) with
    | none => rw [hS] at ht1; cases ht1; rfl
    | some x => rw [hS] at ht1; cases ht1; rfl
  have hrd1 : RdB w v1 l1 := by
    cases hS : σ.S (.safe c.t) with
    | none => rw [hS] at ht1; cases ht1; exact RdB.nil
    | some x => rw [hS] at ht1; cases ht1; exact h.fam.rd _ _ _ hS
  unfold Ch.val
  rw [hk]
  refine (apply_move w d 2 75 σ.cells b σ.ns (vsafe σ.S) c.s c.t l1 σ.us (.slice c.A c.n c.c) hst0 v hvs (h.fam.rd _ _ _ hp).isS h.cel (by unfold Dv.cells; rw [hms]; rfl) rfl (h.fs.map hms) hs ht (by rw [hvt]; exact hrd1) hl hu hn hiv).mono ?_
  rintro e w2 ⟨rfl, hC2, hM2, hf2⟩
  rw [cells_set3 σ b hms] at hC2
  refine ⟨rfl, safe_plain h hms (famMoveS_ok h.fam _ _) (fun p u k e => ?_) (fun x => by simp [famMoveS]) (fun i => by simp [famMoveS]) hC2 ?_ hf2⟩
  · unfold famMoveS at e
    split at e
    · cases e
    · split at e
      · exact ⟨_, e⟩
      · exact ⟨_, e⟩
  · have hV : vsafe (famMoveS σ.S c.s c.t) = fun x => if x = c.s then none else if x = c.t then some v else vsafe σ.S x := by
      funext x
      unfold vsafe famMoveS
      by_cases hx : x = c.s
      · subst hx; simp
      · by_cases hy : x = c.t
        · subst hy; simp [hx, hp]
        · simp [hx, hy]
    rw [hV]
    exact hM2

end Go.Proofs.Ytbdmlenapccdnaa
namespace Go.Proofs.Ytbdmlenapccdnaa
open Go.RowKit

abbrev Cont := ByteArray → Option (List Int)
/-- what is safe, by name -/
def cont (S : Fam) : Cont := fun x => (S (.safe x)).map Prod.snd
/-- a change laid upon it -/
def doC (F : Cont) (c : Ch) (data : List Int) : Cont :=
  if c.k = 0 then fun x => if x = c.s then some ((F c.s).getD [] ++ data) else F x
  else if c.k = 1 then fun x => if x = c.s then none else if x = c.t then F c.s else F x
  else fun x => if x = c.s then none else F x
def doU (F : Cont) (c : Ch) (data : List Int) (us : Int) : Int :=
  if c.k = 0 then us + data.length else if c.k = 1 then us - ((F c.t).getD []).length else us - ((F c.s).getD []).length
def okC (F : Cont) (c : Ch) (data : List Int) : Prop :=
  c.s.size ≤ maxLen ∧ c.t.size ≤ maxLen ∧ (c.k = 0 ∧ ((F c.s).getD []).length + data.length ≤ 100000000 ∨ c.k = 1 ∧ c.s ≠ c.t ∧ (∃ l, F c.s = some l) ∧ ((F c.t).getD []).length ≤ 100000000 ∨ c.k = 2 ∧ (∃ l, F c.s = some l) ∧ ((F c.s).getD []).length ≤ 100000000)

theorem cont_some {S : Fam} {x : ByteArray} {l : List Int} (h : cont S x = some l) : ∃ v, S (.safe x) = some (v, l) := by
  unfold cont at h
  cases hS : S (.safe x) with
  | none => rw [hS] at h; cases h
  | some y => rw [hS] at h; obtain ⟨v, m⟩ := y; cases h; exact ⟨v, rfl⟩
theorem cont_getD (S : Fam) (x : ByteArray) : ∃ v, (S (.safe x)).getD (nilS, []) = (v, (cont S x).getD []) := by
  unfold cont
  cases hS : S (.safe x) with
  | none => exact ⟨nilS, rfl⟩
  | some y => obtain ⟨v, m⟩ := y; exact ⟨v, rfl⟩

theorem safe_any (w : World) (d B : Nat) (σ : Dv) (i : Nat) (c : Ch) (data : List Int) (h : DInv w d B σ) (hc : σ.cs[i]? = some c) (hi : σ.S (.pend i) = some (.slice c.A c.n c.c, data)) (hok : okC (cont σ.S) c data) (hu : 0 ≤ σ.us ∧ σ.us ≤ 1000000000000) (hn : σ.ns < 1000000) :
    Calls Try.prog 54 #[.pointer (some ⟨d, 2, none⟩), c.val] w fun e w' => e = .returned (.tuple #[]) ∧ ∃ σ', SafeStep w d B σ σ' w' ∧ cont σ'.S = doC (cont σ.S) c data ∧ σ'.us = doU (cont σ.S) c data σ.us ∧ σ'.ns ≤ σ.ns + 1 := by
  obtain ⟨hs, ht, hok⟩ := hok
  have hiv : isS (.slice c.A c.n c.c) = true := (h.fam.rd _ _ _ hi).isS
  rcases hok with ⟨hk, hl⟩ | ⟨hk, hst, ⟨l, hl⟩, hl2⟩ | ⟨hk, ⟨l, hl⟩, hl2⟩
  · obtain ⟨v0, hp⟩ := cont_getD σ.S c.s
    have hcn : c.n = data.length := by
      obtain ⟨l', e1, e2⟩ := h.pend i c hc
      rw [hi] at e1
      cases e1
      exact e2
    refine (safe_write w d B σ i c data _ v0 h hk hi hcn hp hs hl hu hn).mono ?_
    rintro e w' ⟨rfl, b, v', hS⟩
    refine ⟨rfl, _, hS, ?_, ?_, Nat.le_refl _⟩
    · funext x
      unfold doC
      rw [if_pos hk]
      by_cases hx : x = c.s
      · subst hx
        simp only [if_true]
        show (upd σ.S (.safe c.s) (some (v', (cont σ.S c.s).getD [] ++ data)) (.safe c.s)).map Prod.snd = _
        rw [upd_same]
        rfl
      · simp only [if_neg hx]
        show (upd σ.S (.safe c.s) (some (v', (cont σ.S c.s).getD [] ++ data)) (.safe x)).map Prod.snd = _
        rw [upd_other _ _ (by simpa using hx)]
        rfl
    · unfold doU
      rw [if_pos hk]
  · obtain ⟨v, hp⟩ := cont_some hl
    obtain ⟨v1, hp1⟩ := cont_getD σ.S c.t
    refine (safe_move w d B σ c v v1 l _ h hk hiv hp hp1 hst hs ht hl2 hu hn).mono ?_
    rintro e w' ⟨rfl, hS⟩
    refine ⟨rfl, _, hS, ?_, ?_, Nat.le_refl _⟩
    · funext x
      unfold doC
      rw [if_neg (by omega), if_pos hk]
      show (famMoveS σ.S c.s c.t (.safe x)).map Prod.snd = _
      unfold famMoveS
      by_cases hx : x = c.s
      · simp [hx]
      · by_cases hy : x = c.t
        · subst hy; simp [hx, cont]
        · simp [hx, hy, cont]
    · unfold doU
      rw [if_neg (by omega), if_pos hk]
  · obtain ⟨v, hp⟩ := cont_some hl
    rw [hl] at hl2
    refine (safe_drop w d B σ c v l h hk hiv hp hs hl2 hu).mono ?_
    rintro e w' ⟨rfl, hS⟩
    refine ⟨rfl, _, hS, ?_, ?_, Nat.le_succ _⟩
    · funext x
      unfold doC
      rw [if_neg (by omega), if_neg (by omega)]
      show (upd σ.S (.safe c.s) none (.safe x)).map Prod.snd = _
      unfold upd
      by_cases hx : x = c.s
      · simp [hx]
      · simp [hx, cont]
    · unfold doU
      rw [if_neg (by omega), if_neg (by omega), hl]
      rfl

/-- the first i changes, one behind another -/
def runC (cs : List Ch) (D : Nat → List Int) (F : Cont) (us : Int) : Nat → Cont × Int
  | 0 => (F, us)
  | i + 1 => match cs[i]? with
    | some c => (doC (runC cs D F us i).1 c (D i), doU (runC cs D F us i).1 c (D i) (runC cs D F us i).2)
    | none => runC cs D F us i

/-- a disk in memory of which i changes are safe -/
structure SetI (w : World) (d B : Nat) (σ : Dv) (D : Nat → List Int) (i : Nat) (W : World) (σi : Dv) : Prop where
  inv : DInv W d B σi
  fr : Fr (foot d σ) w W
  ft : ∀ k, foot d σi k → foot d σ k ∨ w.heap.size ≤ k
  con : cont σi.S = (runC σ.cs D (cont σ.S) σ.us i).1
  us : σi.us = (runC σ.cs D (cont σ.S) σ.us i).2
  ns : σi.ns ≤ σ.ns + i
  now : ∀ x, σi.S (.now x) = σ.S (.now x)
  pen : ∀ j, σi.S (.pend j) = σ.S (.pend j)
  rest : σi = { σ with S := σi.S, ms := σi.ms, ns := σi.ns, us := σi.us }

/-- a disk in memory with nothing pending -/
def famRest (S : Fam) : Fam := fun q => match q with
  | .pend _ => none
  | .now x => S (.now x)
  | .safe x => S (.safe x)
theorem famRest_ok {w : World} {S : Fam} (h : FamOk w S) : FamOk w (famRest S) :=
  h.sub id (fun p x e => by
    cases p with
    | now y => exact e
    | safe y => exact e
    | pend j => cases e) (fun p q x y e e' hpq => hpq) (fun _ => rfl)

structure Settled (w : World) (d B : Nat) (σ : Dv) (D : Nat → List Int) (keep : Nat) (w' : World) (σ' : Dv) : Prop where
  inv : DInv w' d B σ'
  fr : Fr (foot d σ) w w'
  ft : ∀ k, foot d σ' k → foot d σ k ∨ w.heap.size ≤ k
  con : cont σ'.S = (runC σ.cs D (cont σ.S) σ.us keep).1
  us : σ'.us = (runC σ.cs D (cont σ.S) σ.us keep).2
  ns : σ'.ns ≤ σ.ns + keep
  now : ∀ x, σ'.S (.now x) = σ.S (.now x)
  rest : σ' = { σ with S := σ'.S, ms := σ'.ms, ns := σ'.ns, us := σ'.us, pv := σ'.pv, cs := [] }

/-- the changes forgotten -/
theorem SetI.done {w W w' : World} {d B keep : Nat} {σ σi : Dv} {D : Nat → List Int} {pv' : Value} (h : SetI w d B σ D keep W σi) (hpv : pv'.ownBlock = σ.pv.ownBlock) (hC : Cel w' d 75 (dc σ.mn σ.un σi.ms σi.us pv' σ.room σ.fuse σ.steps σ.off))
    (hrow : w'.ownsRow B 82 4 pv' 0 []) (hf : Fr (fun k => k = d ∨ σ.pv.ownBlock = some k) W w') :
    Settled w d B σ D keep w' { σ with S := famRest σi.S, ms := σi.ms, ns := σi.ns, us := σi.us, pv := pv', cs := [] } := by
  have hr := h.rest
  have hpvi : σi.pv = σ.pv := by rw [hr]
  have hmni : σi.mn = σ.mn := by rw [hr]
  have hnni : σi.nn = σ.nn := by rw [hr]
  have hi := h.inv
  have hfi := hi.fn
  rw [hmni, hnni] at hfi
  have hrowi := hi.row
  rw [hpvi] at hrowi
  have hVn : vnow (famRest σi.S) = vnow σi.S := rfl
  have hVs : vsafe (famRest σi.S) = vsafe σi.S := rfl
  refine ⟨⟨hC, ?_, ?_, ?_, ?_, hrow, fun i c e => by simp at e, fun i _ => rfl⟩, h.fr.then hf ?_, ?_, ?_, h.us, h.ns, h.now, rfl⟩
  · show Files w' σ.mn σ.nn (vnow (famRest σi.S))
    rw [hVn]
    exact hfi.fr hf (fun b e => by
      rintro (hk | hk)
      · exact hi.cel.ne_map (hfi.map e) hk.symm
      · exact row_ne_map hrowi (hfi.map e) hk)
  · show Files w' σi.ms σi.ns (vsafe (famRest σi.S))
    rw [hVs]
    exact hi.fs.fr hf (fun b e => by
      rintro (hk | hk)
      · exact hi.cel.ne_map (hi.fs.map e) hk.symm
      · exact row_ne_map hrowi (hi.fs.map e) hk)
  · have hF := famRest_ok hi.fam
    refine hF.keep (fun p u k e => (hF.rd p u k e).fr hf (fun g eg => ?_))
    rintro (hk | hk)
    · exact hi.cel.ne_rd (hF.rd p u k e) (by decide) (by rw [eg, hk])
    · exact row_ne_rd hrowi (hF.rd p u k e) hk eg
  · intro b e
    exact hi.mm b (by rw [hmni]; exact e)
  · intro k hk
    rcases hk with hk | hk
    · exact .inl (.inl hk)
    · exact .inl (.inr (.inr (.inr (.inl hk))))
  · rintro k (hk | hk | hk | hk | ⟨p, u, m, e, hk⟩)
    · exact .inl (.inl hk)
    · exact .inl (.inr (.inl hk))
    · exact h.ft k (.inr (.inr (.inl hk)))
    · exact .inl (.inr (.inr (.inr (.inl (by rw [← hpv]; exact hk)))))
    · have e : famRest σi.S p = some (u, m) := e
      refine h.ft k (.inr (.inr (.inr (.inr ⟨p, u, m, ?_, hk⟩))))
      cases p with
      | now y => exact e
      | safe y => exact e
      | pend j => cases e
  · exact h.con

theorem settle_inv (w : World) (d B : Nat) (σ : Dv) (keep : Nat) (D : Nat → List Int) (h : DInv w d B σ) (hk : keep ≤ σ.cs.length)
    (hD : ∀ i c, σ.cs[i]? = some c → σ.S (.pend i) = some (.slice c.A c.n c.c, D i))
    (hok : ∀ i c, i < keep → σ.cs[i]? = some c → okC (runC σ.cs D (cont σ.S) σ.us i).1 c (D i) ∧ 0 ≤ (runC σ.cs D (cont σ.S) σ.us i).2 ∧ (runC σ.cs D (cont σ.S) σ.us i).2 ≤ 1000000000000) (hn : σ.ns + keep ≤ 1000000) :
    Calls Try.prog 42 #[.pointer (some ⟨d, 0, none⟩), .int .i64 keep] w fun e w' => e = .returned (.tuple #[]) ∧ ∃ σ', Settled w d B σ D keep w' σ' := by
  have h0 : SetI w d B σ D 0 w σ := ⟨h, Fr.refl _ _, fun k hk => .inl hk, rfl, rfl, Nat.le_refl _, fun _ => rfl, fun _ => rfl, rfl⟩
  rcases h.row.2 with ⟨hpv, hcs⟩ | ⟨p, cap, cur, hpv, hb, hg, hnc, hcm, hcs, hxs⟩
  · obtain rfl : keep = 0 := by omega
    have hC := h.cel
    unfold Dv.cells at hC
    rw [hpv] at hC
    refine (settle_nil w d σ.mn σ.ms σ.un σ.us σ.room σ.fuse σ.steps σ.off hC).mono ?_
    rintro e w' ⟨rfl, hC', hf⟩
    refine ⟨rfl, _, h0.done (by rw [hpv]; rfl) hC' (World.ownsRow_nil w' B 82 4) (hf.mono (fun i hi => .inl (.inl hi)))⟩
  · refine (settle_some w d B p cap keep σ.cs (fun i W => ∃ σi, SetI w d B σ D i W σi) σ.mn σ.un σ.room σ.fuse σ.steps σ.off hk hnc hcm ?_ ?_ ?_ ⟨σ, h0⟩).mono ?_
    · rintro i W ⟨σi, hi⟩
      refine ⟨σi.ms, σi.us, ?_, ?_⟩
      · have hC := hi.inv.cel
        unfold Dv.cells at hC
        rw [hi.rest] at hC
        rw [← hpv]
        exact hC
      · have hr := hi.inv.row
        rw [hi.rest] at hr
        rw [← hpv]
        exact hr
    · rintro i W W' ⟨σi, hi⟩ hf
      exact ⟨σi, ⟨hi.inv.keep hf, hi.fr.then hf (fun _ h => h.elim), hi.ft, hi.con, hi.us, hi.ns, hi.now, hi.pen, hi.rest⟩⟩
    · rintro i c W W0 hlt hc ⟨σi, hi⟩ hf
      have hcsi : σi.cs = σ.cs := by rw [hi.rest]
      obtain ⟨ho, hu⟩ := hok i c hlt hc
      refine (safe_any W d B σi i c (D i) (hi.inv.keep hf) (by rw [hcsi]; exact hc) (by rw [hi.pen]; exact hD i c hc) (by rw [hi.con]; exact ho) (by rw [hi.us]; exact hu) (by have := hi.ns; omega)).mono ?_
      rintro e W' ⟨rfl, σ', hS, hcon, hus, hns⟩
      refine ⟨rfl, ⟨σ', ⟨hS.inv, (hi.fr.then hf (fun _ h => h.elim)).then hS.fr hi.ft, fun k hk => ?_, ?_, ?_, by have := hi.ns; omega, fun x => (hS.now x).trans (hi.now x), fun j => (hS.pen j).trans (hi.pen j), ?_⟩⟩, hS.fr.mono (fun k hk => .inl (hi.inv.foot_lt hk))⟩
      · rcases hS.ft k hk with hk | hk
        · exact hi.ft k hk
        · exact .inr (Nat.le_trans (Nat.le_trans hi.fr.size hf.size) hk)
      · rw [hcon, hi.con]
        simp only [runC, hc]
      · rw [hus, hi.con, hi.us]
        simp only [runC, hc]
      · have h1 := hS.rest
        have h2 := hi.rest
        rw [h2] at h1
        exact h1
    · rintro e w' ⟨rfl, w2, ms, us, ⟨σi, hi⟩, hC2, hC', hrow', hf⟩
      have hCi := hi.inv.cel
      unfold Dv.cells at hCi
      have hE : some (Obj.cells _ _ _) = some (Obj.cells _ _ _) := (show w2.heap[d]? = _ from hCi).symm.trans (show w2.heap[d]? = _ from hC2)
      injection hE with hE
      injection hE with hE
      have e2 := congrArg (fun C : Array Value => C[2]?) hE
      have e3 := congrArg (fun C : Array Value => C[3]?) hE
      simp [dc] at e2 e3
      subst e2
      subst e3
      exact ⟨rfl, _, hi.done (by rw [hpv]; rfl) hC' hrow' (hf.mono (fun k hk => .inl (by
        rcases hk with hk | hk
        · exact .inl hk
        · exact .inr (by rw [hpv, hk]; rfl))))⟩

end Go.Proofs.Ytbdmlenapccdnaa
namespace Go.Proofs.Ytbdmlenapccdnaa
open Go.RowKit

theorem Settled.lift {w w1 w' : World} {d B keep : Nat} {σ σ' : Dv} {D : Nat → List Int} (h : Settled w1 d B σ D keep w' σ') (hf : Fr (fun k => k = d) w w1) : Settled w d B σ D keep w' σ' :=
  ⟨h.inv, (hf.mono (fun _ hi => .inl (.inl hi))).trans h.fr, fun k hk => (h.ft k hk).imp id (fun hk => Nat.le_trans hf.size hk), h.con, h.us, h.ns, h.now, h.rest⟩

theorem Sync_off (w : World) (d B : Nat) (σ : Dv) (h : DInv w d B σ) (hoff : σ.off = true) :
    Calls Try.prog 16 #[.pointer (some ⟨d, 0, none⟩)] w fun e w' => e = .returned (.int .i64 10) ∧ w = w' := by
  have hrdy : Calls Try.prog 37 #[.pointer (some ⟨d, 0, none⟩), .slice none 0 0] w fun e w' => e = .returned (.int .i64 10) ∧ w = w' := by
    have := ready_any σ.mn σ.ms σ.un σ.us σ.room σ.fuse σ.steps σ.pv σ.off w d [] none 0 h.cel (.inl rfl) (by simp) (fun x hx => by simp at hx)
    simp only [readyR, List.all_nil, hoff, if_true] at this
    exact this
  have HR := Lib.hid hrdy
  clear hrdy
  go_enter Try.func16, Try.ntmps16
  go_wp2_with fail
  refine HR.out.mono ?_
  rintro e w' ⟨rfl, rfl⟩
  go_wp2
  go_ret
  exact ⟨rfl, rfl⟩

theorem Sync_burn (w : World) (d B : Nat) (σ : Dv) (h : DInv w d B σ) (hoff : σ.off = false) (hfu : σ.fuse = 1) :
    Calls Try.prog 16 #[.pointer (some ⟨d, 0, none⟩)] w fun e w' => e = .returned (.int .i64 10) ∧ DInv w' d B { σ with fuse := 0, steps := σ.steps, off := true } ∧ Fr (fun k => k = d) w w' := by
  have hrdy : Calls Try.prog 37 #[.pointer (some ⟨d, 0, none⟩), .slice none 0 0] w fun e w' => e = .returned (.int .i64 0) ∧ w = w' := by
    have := ready_any σ.mn σ.ms σ.un σ.us σ.room σ.fuse σ.steps σ.pv σ.off w d [] none 0 h.cel (.inl rfl) (by simp) (fun x hx => by simp at hx)
    simp only [readyR, List.all_nil, hoff, if_true] at this
    exact this
  have hC := h.cel
  unfold Dv.cells at hC
  rw [hfu] at hC
  have HR := Lib.hid hrdy
  have HS := Lib.hid (step_burn (h := hC))
  clear hrdy
  go_enter Try.func16, Try.ntmps16
  go_wp2_with fail
  refine HR.out.mono ?_
  rintro e w' ⟨rfl, rfl⟩
  go_wp2_with fail
  refine HS.out.mono ?_
  rintro e w' ⟨rfl, hC', hf⟩
  go_wp2
  go_ret
  exact ⟨rfl, h.turn hC' hf, hf⟩

set_option maxHeartbeats 400000 in
theorem Sync_done (w : World) (d B : Nat) (σ : Dv) (D : Nat → List Int) (h : DInv w d B σ) (hoff : σ.off = false) (hfu : σ.fuse ≠ 1) (hf2 : 0 ≤ σ.fuse ∧ σ.fuse ≤ 9223372036854775807) (hs3 : 0 ≤ σ.steps ∧ σ.steps ≤ 1000000000)
    (hD : ∀ i c, σ.cs[i]? = some c → σ.S (.pend i) = some (.slice c.A c.n c.c, D i))
    (hok : ∀ i c, i < σ.cs.length → σ.cs[i]? = some c → okC (runC σ.cs D (cont σ.S) σ.us i).1 c (D i) ∧ 0 ≤ (runC σ.cs D (cont σ.S) σ.us i).2 ∧ (runC σ.cs D (cont σ.S) σ.us i).2 ≤ 1000000000000) (hn : σ.ns + σ.cs.length ≤ 1000000) :
    Calls Try.prog 16 #[.pointer (some ⟨d, 0, none⟩)] w fun e w' => e = .returned (.int .i64 0) ∧ ∃ σ', Settled w d B { σ with fuse := max (σ.fuse - 1) 0, steps := σ.steps + 1 } D σ.cs.length w' σ' := by
  have hrdy : Calls Try.prog 37 #[.pointer (some ⟨d, 0, none⟩), .slice none 0 0] w fun e w' => e = .returned (.int .i64 0) ∧ w = w' := by
    have := ready_any σ.mn σ.ms σ.un σ.us σ.room σ.fuse σ.steps σ.pv σ.off w d [] none 0 h.cel (.inl rfl) (by simp) (fun x hx => by simp at hx)
    simp only [readyR, List.all_nil, hoff, if_true] at this
    exact this
  have HR := Lib.hid hrdy
  have HS := Lib.hid (step_ok (h := h.cel) (h1 := hfu) (h2 := hf2) (h3 := hs3))
  have HO := Lib.hid hok
  have HD := Lib.hid hD
  clear hrdy hfu hf2 hs3 hok hD
  go_enter Try.func16, Try.ntmps16
  go_wp2_with fail
  refine HR.out.mono ?_
  rintro e w' ⟨rfl, rfl⟩
  go_wp2_with fail
  refine HS.out.mono ?_
  rintro e w1 ⟨rfl, hC', hf⟩
  have h1 := h.turn hC' hf
  have HT := Lib.hid (settle_inv w1 d B _ σ.cs.length D h1 (Nat.le_refl _) HD.out HO.out hn)
  obtain ⟨A, cap, hpv⟩ : ∃ A cap, σ.pv = .slice A σ.cs.length cap := by
    rcases h.row.2 with ⟨hpv, hcs⟩ | ⟨p, cap, cur, hpv, _⟩
    · exact ⟨none, 0, by rw [hpv, hcs]⟩
    · exact ⟨_, _, hpv⟩
  have g4 := (hC'.cell 4).trans dc4
  rw [hpv] at g4
  go_wp2_with fail
  refine HT.out.mono ?_
  rintro e w' ⟨rfl, σ', hS⟩
  have hS' := hS.lift hf
  clear hS
  go_wp2
  go_ret
  exact ⟨rfl, σ', hS'⟩

end Go.Proofs.Ytbdmlenapccdnaa
namespace Go.Proofs.Ytbdmlenapccdnaa
open Go.RowKit

theorem RdB.cut {w : World} {v : Value} {l : List Int} (h : RdB w v l) : RdB w (cutS v) l ∧ (cutS v).ownBlock = v.ownBlock ∧ ¬ Spare (cutS v) l := by
  rcases h with ⟨rfl, rfl⟩ | ⟨g, cap, cur, rfl, h1, h2, h3, h4, h5⟩
  · exact ⟨RdB.nil, rfl, nil_spare⟩
  · refine ⟨.inr ⟨g, l.length, cur, rfl, h1, Nat.le_refl _, Nat.le_trans h2 h3, Nat.le_trans h2 h4, h5⟩, rfl, ?_⟩
    rintro ⟨A, c, e, hc⟩
    simp only [cutS] at e
    injection e with _ _ e
    omega
theorem RdB.take {w : World} {A : Option Addr} {n c : Nat} {l : List Int} (h : RdB w (.slice A n c) l) (m : Nat) (hm : m ≤ l.length) : RdB w (.slice A m c) (l.take m) := by
  rcases h with ⟨h, rfl⟩ | ⟨g, cap, cur, e, h1, h2, h3, h4, h5⟩
  · unfold nilS at h
    injection h with e1 e2 e3
    subst e1
    subst e3
    obtain rfl : m = 0 := by simpa using hm
    exact .inl ⟨rfl, rfl⟩
  · injection e with e1 e2 e3
    subst e1
    subst e3
    have hl : (l.take m).length = m := by rw [List.length_take]; omega
    refine .inr ⟨g, c, cur, by rw [hl], h1, by omega, h3, h4, ?_⟩
    rw [hl, List.map_take, ← h5, List.take_take, Nat.min_eq_left hm]

/-- what is safe, twice -/
def famTwin (S : Fam) : Fam := fun q => match q with
  | .now x => (S (.safe x)).map (fun y => (cutS y.1, y.2))
  | .safe x => S (.safe x)
  | .pend i => S (.pend i)
theorem famTwin_now {S : Fam} {x : ByteArray} {v : Value} {l : List Int} (h : famTwin S (.now x) = some (v, l)) : ∃ v0, S (.safe x) = some (v0, l) ∧ v = cutS v0 := by
  have h : (S (.safe x)).map (fun y => (cutS y.1, y.2)) = some (v, l) := h
  cases hS : S (.safe x) with
  | none => rw [hS] at h; cases h
  | some y => rw [hS] at h; obtain ⟨a, b⟩ := y; cases h; exact ⟨a, rfl, rfl⟩
theorem famTwin_ok {w : World} {S : Fam} (h : FamOk w S) : FamOk w (famTwin S) := by
  constructor
  · intro p v l e
    cases p with
    | now x =>
      obtain ⟨v0, e0, rfl⟩ := famTwin_now e
      exact (h.rd _ _ _ e0).cut.1
    | safe x => exact h.rd _ _ _ e
    | pend i => exact h.rd _ _ _ e
  · intro p q v l v' l' hp hpq e e' hne hb hsp
    cases p with
    | now x =>
      obtain ⟨v0, e0, rfl⟩ := famTwin_now e
      exact absurd hsp (h.rd _ _ _ e0).cut.2.2
    | pend i => cases hp
    | safe x =>
      have e : S (.safe x) = some (v, l) := e
      cases q with
      | safe y => exact h.apart (.safe x) (.safe y) v l v' l' hp hpq e e' hne hb hsp
      | pend j => exact h.apart (.safe x) (.pend j) v l v' l' hp hpq e e' hne hb hsp
      | now y =>
        obtain ⟨v0, e0, rfl⟩ := famTwin_now e'
        have hc := (h.rd _ _ _ e0).cut
        refine ⟨?_, fun _ => hc.2.2⟩
        by_cases hxy : x = y
        · subst hxy
          rw [e] at e0
          cases e0
          exact Nat.le_refl _
        · exact (h.apart (.safe x) (.safe y) v l v0 l' hp (by simpa using hxy) e e0 hne (hb.trans hc.2.1) hsp).1

theorem DInv.twin {w w1 w' : World} {d B b : Nat} {σ : Dv} (h : DInv w d B σ) (hge : w.heap.size ≤ b) (hM : MapV w1 b σ.ns (fun x => (vsafe σ.S x).map cutS)) (hf : Fr (fun _ => False) w w1)
    (hC : Cel w' d 75 (dc (some b) σ.us σ.ms σ.us σ.pv σ.room 0 σ.steps false)) (hf' : Fr (fun k => k = d) w1 w') :
    DInv w' d B { σ with S := famTwin σ.S, mn := some b, nn := σ.ns, un := σ.us, fuse := 0, off := false } := by
  have h1 := h.keep hf
  have hfam := famTwin_ok h1.fam
  have hdb : d ≠ b := by have := h.cel.lt; omega
  refine ⟨hC, .inr ⟨b, rfl, ?_⟩, ?_, hfam.keep (fun p u k e => (hfam.rd p u k e).fr hf' (fun g eg hk => h1.cel.ne_rd (hfam.rd p u k e) (by decide) (by rw [eg, hk]))), ?_, own_fr h1.row hf' (fun g e hk => row_ne h1.row h1.cel (by decide) (by rw [e, hk])), h.pend, h.pend0⟩
  · have hV : vnow (famTwin σ.S) = fun x => (vsafe σ.S x).map cutS := by
      funext x
      show ((σ.S (.safe x)).map (fun y => (cutS y.1, y.2))).map Prod.fst = ((σ.S (.safe x)).map Prod.fst).map cutS
      cases σ.S (.safe x) <;> rfl
    show MapV w' b σ.ns (vnow (famTwin σ.S))
    rw [hV]
    exact hM.fr hf' (fun e => hdb e.symm)
  · exact h1.fs.fr hf' (fun b' e hk => h1.cel.ne_map (h1.fs.map e) hk.symm)
  · rintro b' e e'
    cases e
    have := h.fs.lt e'
    omega

theorem flat_set : ∀ (cs : List Ch) (i : Nat) (c : Ch) (m : Nat), cs[i]? = some c → (cs.set i { c with n := m }).flatMap Ch.cells = (cs.flatMap Ch.cells).set (i * 4 + 3) (.slice c.A m c.c)
  | [], i, c, m, h => by simp at h
  | c0 :: cs, 0, c, m, h => by
    simp at h
    subst h
    simp [Ch.cells, chgCells]
  | c0 :: cs, i + 1, c, m, h => by
    simp at h
    have := flat_set cs i c m h
    simp only [List.set_cons_succ, List.flatMap_cons, this]
    have h4 : c0.cells.length = 4 := rfl
    rw [List.set_append_right _ _ (by omega), h4]
    congr 2
    omega

theorem DInv.cut {w : World} {d B p cap i m : Nat} {σ : Dv} {c : Ch} {data : List Int} (h : DInv w d B σ) (hpv : σ.pv = .slice (some ⟨p, 0, none⟩) σ.cs.length cap) (hc : σ.cs[i]? = some c) (hi : σ.S (.pend i) = some (.slice c.A c.n c.c, data)) (hm : m ≤ data.length) :
    DInv (w.setCell ⟨p, i * 4 + 3, none⟩ (.slice c.A m c.c)) d B { σ with S := upd σ.S (.pend i) (some (.slice c.A m c.c, data.take m)), cs := σ.cs.set i { c with n := m } } := by
  have hf : Fr (fun k => k = p) w (w.setCell ⟨p, i * 4 + 3, none⟩ (.slice c.A m c.c)) := Fr.set w p _ _
  have hob : σ.pv.ownBlock = some p := by rw [hpv]; rfl
  have hdp : d ≠ p := fun e => row_ne h.row h.cel (by decide) (by rw [hob, e])
  have hup : ∀ u k, RdB w u k → RdB (w.setCell ⟨p, i * 4 + 3, none⟩ (.slice c.A m c.c)) u k := fun u k hu => hu.fr hf (fun g eg hk => row_ne_rd h.row hu hob (by rw [eg, hk]))
  have hlt : i < σ.cs.length := (List.getElem?_eq_some_iff.1 hc).1
  refine ⟨h.cel.of (hf.block d h.cel.lt hdp), ?_, ?_, ?_, h.mm, ?_, ?_, ?_⟩
  · have hV : vnow (upd σ.S (.pend i) (some (.slice c.A m c.c, data.take m))) = vnow σ.S := by
      funext x
      unfold vnow
      rw [upd_other _ _ (by simp)]
    show Files _ σ.mn σ.nn (vnow (upd σ.S (.pend i) (some (.slice c.A m c.c, data.take m))))
    rw [hV]
    exact h.fn.fr hf (fun b e hk => row_ne_map h.row (h.fn.map e) (by rw [hob, hk]))
  · have hV : vsafe (upd σ.S (.pend i) (some (.slice c.A m c.c, data.take m))) = vsafe σ.S := by
      funext x
      unfold vsafe
      rw [upd_other _ _ (by simp)]
    show Files _ σ.ms σ.ns (vsafe (upd σ.S (.pend i) (some (.slice c.A m c.c, data.take m))))
    rw [hV]
    exact h.fs.fr hf (fun b e hk => row_ne_map h.row (h.fs.map e) (by rw [hob, hk]))
  · constructor
    · intro q u k e
      by_cases hq : q = .pend i
      · subst hq
        have e : upd σ.S (.pend i) (some (.slice c.A m c.c, data.take m)) (.pend i) = some (u, k) := e
        rw [upd_same] at e
        cases e
        exact hup _ _ ((h.fam.rd _ _ _ hi).take m hm)
      · have e : upd σ.S (.pend i) (some (.slice c.A m c.c, data.take m)) q = some (u, k) := e
        rw [upd_other _ _ hq] at e
        exact hup _ _ (h.fam.rd _ _ _ e)
    · intro q r u k u' k' hql hqr e e' hne hb hsp
      have e : upd σ.S (.pend i) (some (.slice c.A m c.c, data.take m)) q = some (u, k) := e
      have e' : upd σ.S (.pend i) (some (.slice c.A m c.c, data.take m)) r = some (u', k') := e'
      rw [upd_other _ _ (by rintro rfl; cases hql)] at e
      by_cases hr : r = .pend i
      · subst hr
        rw [upd_same] at e'
        cases e'
        have := h.fam.apart q (.pend i) u k _ data hql hqr e hi hne (by rw [hb]; cases c.A <;> rfl) hsp
        exact ⟨by rw [List.length_take]; omega, fun hl => by cases hl⟩
      · rw [upd_other _ _ hr] at e'
        exact h.fam.apart q r u k u' k' hql hqr e e' hne hb hsp
  · have hr := h.row
    rw [hpv] at hr
    have := hr.stored (i * 4 + 3) (.slice c.A m c.c)
    show World.ownsRow _ B 82 4 σ.pv (σ.cs.set i { c with n := m }).length ((σ.cs.set i { c with n := m }).flatMap Ch.cells)
    rw [flat_set _ _ _ _ hc, List.length_set, hpv]
    exact this.1
  · intro j c' hj
    have hj : (σ.cs.set i { c with n := m })[j]? = some c' := hj
    by_cases hij : i = j
    · subst hij
      rw [List.getElem?_set_self hlt] at hj
      cases hj
      exact ⟨_, upd_same _ _ _, by rw [List.length_take]; show m = _; omega⟩
    · rw [List.getElem?_set_ne hij] at hj
      obtain ⟨l', e1, e2⟩ := h.pend j c' hj
      exact ⟨l', by show upd σ.S (.pend i) (some (.slice c.A m c.c, data.take m)) (.pend j) = _; rw [upd_other _ _ (by simp; omega)]; exact e1, e2⟩
  · intro j hj
    have hj : (σ.cs.set i { c with n := m }).length ≤ j := hj
    rw [List.length_set] at hj
    show upd σ.S (.pend i) (some (.slice c.A m c.c, data.take m)) (.pend j) = _
    rw [upd_other _ _ (by simp; omega)]
    exact h.pend0 j hj

end Go.Proofs.Ytbdmlenapccdnaa
namespace Go.Proofs.Ytbdmlenapccdnaa
open Go.RowKit

theorem DInv.pvForm {w : World} {d B : Nat} {σ : Dv} (h : DInv w d B σ) : ∃ A cap, σ.pv = .slice A σ.cs.length cap := by
  rcases h.row.2 with ⟨hpv, hcs⟩ | ⟨p, cap, cur, hpv, _⟩
  · exact ⟨none, 0, by rw [hpv, hcs]⟩
  · exact ⟨_, _, hpv⟩

theorem DInv.twin_call {w : World} {d B : Nat} {σ : Dv} (h : DInv w d B σ) (hn : σ.ns < 1000000) : Calls Try.prog 43 #[.pointer (some ⟨d, 2, none⟩)] w (Twinned w (vsafe σ.S) σ.ns σ.us) := by
  refine twin_any w d 2 75 σ.cells σ.ms σ.ns (vsafe σ.S) σ.us h.cel rfl rfl h.fs hn (fun s A k c e => ?_)
  obtain ⟨l, hl⟩ : ∃ l, σ.S (.safe s) = some (.slice A k c, l) := by
    unfold vsafe at e
    cases hS : σ.S (.safe s) with
    | none => rw [hS] at e; cases e
    | some x => rw [hS] at e; obtain ⟨v, l⟩ := x; cases e; exact ⟨l, rfl⟩
  rcases h.fam.rd _ _ _ hl with ⟨e, _⟩ | ⟨g, cap, cur, e, _, h2, _, h4, _⟩
  · unfold nilS at e
    cases e
    exact ⟨Nat.le_refl _, Nat.zero_le _, fun _ => rfl⟩
  · cases e
    exact ⟨h2, h4, fun e => by cases e⟩

/-- a disk behind a crash: what settled is safe and now -/
def Crashed (w : World) (d B : Nat) (σ : Dv) (D : Nat → List Int) (K : Nat) (w' : World) : Prop :=
  ∃ w2 σ' b, Settled w d B σ D K w2 σ' ∧ w2.heap.size ≤ b ∧ DInv w' d B { σ' with S := famTwin σ'.S, mn := some b, nn := σ'.ns, un := σ'.us, fuse := 0, off := false } ∧ Fr (fun k => k = d) w2 w'

set_option maxRecDepth 100000 in
set_option maxHeartbeats 1000000 in
theorem Crash_plain (w : World) (d B : Nat) (σ : Dv) (D : Nat → List Int) (keep torn : Int) (K : Nat) (h : DInv w d B σ) (hK : min (max keep 0) (σ.cs.length : Int) = (K : Int)) (hno : torn ≤ 0)
    (hD : ∀ i c, σ.cs[i]? = some c → σ.S (.pend i) = some (.slice c.A c.n c.c, D i))
    (hok : ∀ i c, i < K → σ.cs[i]? = some c → okC (runC σ.cs D (cont σ.S) σ.us i).1 c (D i) ∧ 0 ≤ (runC σ.cs D (cont σ.S) σ.us i).2 ∧ (runC σ.cs D (cont σ.S) σ.us i).2 ≤ 1000000000000) (hn : σ.ns + K < 1000000) :
    Calls Try.prog 20 #[.pointer (some ⟨d, 0, none⟩), .int .i64 keep, .int .i64 torn] w fun e w' => e = .returned (.tuple #[]) ∧ Crashed w d B σ D K w' := by
  obtain ⟨A, cap, hpv⟩ := h.pvForm
  have g4 := (h.cel.cell 4).trans dc4
  rw [hpv] at g4
  have HT := Lib.hid (settle_inv w d B σ K D h (by omega) hD hok (by omega))
  have HK := Lib.hid hK
  have tn : decide (0 < torn) = false := by simpa using hno
  clear hD hok hK hno
  go_enter Try.func20, Try.ntmps20
  go_wp2_with fail
  rw [HK.out]
  refine HT.out.mono ?_
  rintro e w2 ⟨rfl, σ', hS⟩
  have hns : σ'.ns < 1000000 := by have := hS.ns; omega
  have HW := Lib.hid (hS.inv.twin_call hns)
  go_wp2_with fail
  refine HW.out.mono ?_
  rintro e w3 ⟨b, rfl, hge, hM, hf⟩
  have hI3 := hS.inv.keep hf
  have c0 := (hI3.cel.cell 0).trans dc0
  have c1 := (hI3.cel.cell 1).trans dc1
  have c6 := (hI3.cel.cell 6).trans dc6
  have c8 := (hI3.cel.cell 8).trans dc8
  have f0 := hI3.cel.fz 0
  have f1 := hI3.cel.fz 1
  have f6 := hI3.cel.fz 6
  have f8 := hI3.cel.fz 8
  go_wp2
  go_end0
  have hF := (((Fr.set w3 d 0 (.map (some b))).trans (Fr.set _ d 1 (.int .i64 σ'.us))).trans (Fr.set _ d 8 (.bool false))).trans (Fr.set _ d 6 (.int .i64 0))
  exact ⟨rfl, w2, σ', b, hS, hge, hS.inv.twin hge hM hf ((((hI3.cel.set 0 _).set 1 _).set 8 _).set 6 _) hF, (hf.mono (fun _ h => h.elim)).trans hF⟩

set_option maxRecDepth 100000 in
set_option maxHeartbeats 1000000 in
theorem Crash_full (w : World) (d B : Nat) (σ : Dv) (D : Nat → List Int) (keep torn : Int) (K : Nat) (h : DInv w d B σ) (hK : min (max keep 0) (σ.cs.length : Int) = (K : Int)) (hto : 0 < torn) (hno : K = σ.cs.length)
    (hD : ∀ i c, σ.cs[i]? = some c → σ.S (.pend i) = some (.slice c.A c.n c.c, D i))
    (hok : ∀ i c, i < K → σ.cs[i]? = some c → okC (runC σ.cs D (cont σ.S) σ.us i).1 c (D i) ∧ 0 ≤ (runC σ.cs D (cont σ.S) σ.us i).2 ∧ (runC σ.cs D (cont σ.S) σ.us i).2 ≤ 1000000000000) (hn : σ.ns + K < 1000000) :
    Calls Try.prog 20 #[.pointer (some ⟨d, 0, none⟩), .int .i64 keep, .int .i64 torn] w fun e w' => e = .returned (.tuple #[]) ∧ Crashed w d B σ D K w' := by
  obtain ⟨A, cap, hpv⟩ := h.pvForm
  have g4 := (h.cel.cell 4).trans dc4
  rw [hpv] at g4
  have HT := Lib.hid (settle_inv w d B σ K D h (by omega) hD hok (by omega))
  have HK := Lib.hid hK
  have tn : decide (0 < torn) = true := by simpa using hto
  have tk : decide (min (max keep 0) (σ.cs.length : Int) < (σ.cs.length : Int)) = false := by rw [hK, hno]; simp
  clear hD hok hK hno hto
  go_enter Try.func20, Try.ntmps20
  go_wp2_with fail
  rw [HK.out]
  refine HT.out.mono ?_
  rintro e w2 ⟨rfl, σ', hS⟩
  have hns : σ'.ns < 1000000 := by have := hS.ns; omega
  have HW := Lib.hid (hS.inv.twin_call hns)
  go_wp2_with fail
  refine HW.out.mono ?_
  rintro e w3 ⟨b, rfl, hge, hM, hf⟩
  have hI3 := hS.inv.keep hf
  have c0 := (hI3.cel.cell 0).trans dc0
  have c1 := (hI3.cel.cell 1).trans dc1
  have c6 := (hI3.cel.cell 6).trans dc6
  have c8 := (hI3.cel.cell 8).trans dc8
  have f0 := hI3.cel.fz 0
  have f1 := hI3.cel.fz 1
  have f6 := hI3.cel.fz 6
  have f8 := hI3.cel.fz 8
  go_wp2
  go_end0
  have hF := (((Fr.set w3 d 0 (.map (some b))).trans (Fr.set _ d 1 (.int .i64 σ'.us))).trans (Fr.set _ d 8 (.bool false))).trans (Fr.set _ d 6 (.int .i64 0))
  exact ⟨rfl, w2, σ', b, hS, hge, hS.inv.twin hge hM hf ((((hI3.cel.set 0 _).set 1 _).set 8 _).set 6 _) hF, (hf.mono (fun _ h => h.elim)).trans hF⟩

end Go.Proofs.Ytbdmlenapccdnaa
namespace Go.Proofs.Ytbdmlenapccdnaa
open Go.RowKit

theorem DInv.pvSome {w : World} {d B : Nat} {σ : Dv} (h : DInv w d B σ) (hl : 0 < σ.cs.length) : ∃ p cap, σ.pv = .slice (some ⟨p, 0, none⟩) σ.cs.length cap := by
  rcases h.row.2 with ⟨hpv, hcs⟩ | ⟨p, cap, cur, hpv, _⟩
  · omega
  · exact ⟨_, _, hpv⟩

set_option maxRecDepth 100000 in
set_option maxHeartbeats 1000000 in
theorem Crash_kind (w : World) (d B : Nat) (σ : Dv) (D : Nat → List Int) (keep torn : Int) (K : Nat) (h : DInv w d B σ) (hK : min (max keep 0) (σ.cs.length : Int) = (K : Int)) (hto : 0 < torn) (c : Ch) (hc : σ.cs[K]? = some c) (hno : c.k ≠ 0)
    (hD : ∀ i c, σ.cs[i]? = some c → σ.S (.pend i) = some (.slice c.A c.n c.c, D i))
    (hok : ∀ i c, i < K → σ.cs[i]? = some c → okC (runC σ.cs D (cont σ.S) σ.us i).1 c (D i) ∧ 0 ≤ (runC σ.cs D (cont σ.S) σ.us i).2 ∧ (runC σ.cs D (cont σ.S) σ.us i).2 ≤ 1000000000000) (hn : σ.ns + K < 1000000) :
    Calls Try.prog 20 #[.pointer (some ⟨d, 0, none⟩), .int .i64 keep, .int .i64 torn] w fun e w' => e = .returned (.tuple #[]) ∧ Crashed w d B σ D K w' := by
  have hlt : K < σ.cs.length := (List.getElem?_eq_some_iff.1 hc).1
  obtain ⟨p, cap, hpv⟩ := h.pvSome (by omega)
  have x0 : w.cell? ⟨p, K * 4 + 0, none⟩ = some (.int .i64 c.k) := by
    have hr := h.row
    rw [hpv] at hr
    rw [hr.cellAt (K * 4 + 0) (by omega), flat_at σ.cs K c 0 hc (by omega)]
    rfl
  simp only [Nat.add_zero] at x0
  have g4 := (h.cel.cell 4).trans dc4
  rw [hpv] at g4
  have HT := Lib.hid (settle_inv w d B σ K D h (by omega) hD hok (by omega))
  have tn : decide (0 < torn) = true := by simpa using hto
  have tk : decide ((K : Int) < (σ.cs.length : Int)) = true := by simpa using hlt
  have t0 : (c.k == 0) = false := by simpa using hno
  clear hD hok hno hto
  go_enter Try.func20, Try.ntmps20
  go_wp2_with fail
  refine HT.out.mono ?_
  rintro e w2 ⟨rfl, σ', hS⟩
  have hns : σ'.ns < 1000000 := by have := hS.ns; omega
  have HW := Lib.hid (hS.inv.twin_call hns)
  go_wp2_with fail
  refine HW.out.mono ?_
  rintro e w3 ⟨b, rfl, hge, hM, hf⟩
  have hI3 := hS.inv.keep hf
  have c0 := (hI3.cel.cell 0).trans dc0
  have c1 := (hI3.cel.cell 1).trans dc1
  have c6 := (hI3.cel.cell 6).trans dc6
  have c8 := (hI3.cel.cell 8).trans dc8
  have f0 := hI3.cel.fz 0
  have f1 := hI3.cel.fz 1
  have f6 := hI3.cel.fz 6
  have f8 := hI3.cel.fz 8
  go_wp2
  go_end0
  have hF := (((Fr.set w3 d 0 (.map (some b))).trans (Fr.set _ d 1 (.int .i64 σ'.us))).trans (Fr.set _ d 8 (.bool false))).trans (Fr.set _ d 6 (.int .i64 0))
  exact ⟨rfl, w2, σ', b, hS, hge, hS.inv.twin hge hM hf ((((hI3.cel.set 0 _).set 1 _).set 8 _).set 6 _) hF, (hf.mono (fun _ h => h.elim)).trans hF⟩


end Go.Proofs.Ytbdmlenapccdnaa
namespace Go.Proofs.Ytbdmlenapccdnaa
open Go.RowKit

/-- the data, one of them cut; the disk so -/
def cutD (D : Nat → List Int) (K m : Nat) : Nat → List Int := fun i => if i = K then (D K).take m else D i
def cutV (σ : Dv) (K : Nat) (c : Ch) (D : Nat → List Int) (m : Nat) : Dv := { σ with S := upd σ.S (.pend K) (some (.slice c.A m c.c, (D K).take m)), cs := σ.cs.set K { c with n := m } }

set_option maxRecDepth 100000 in
set_option maxHeartbeats 1000000 in
theorem Crash_torn (w : World) (d B : Nat) (σ : Dv) (D : Nat → List Int) (keep torn : Int) (K : Nat) (h : DInv w d B σ) (hK : min (max keep 0) (σ.cs.length : Int) = (K : Int)) (hto : 0 < torn) (c : Ch) (p cap : Nat) (hpv : σ.pv = .slice (some ⟨p, 0, none⟩) σ.cs.length cap) (hc : σ.cs[K]? = some c) (hno : c.k = 0) (m : Nat) (hm : min torn ((D K).length : Int) = (m : Int))
    (hD : ∀ i c, σ.cs[i]? = some c → σ.S (.pend i) = some (.slice c.A c.n c.c, D i))
    (hok : ∀ i c', i < K + 1 → (σ.cs.set K { c with n := m })[i]? = some c' → okC (runC (σ.cs.set K { c with n := m }) (cutD D K m) (cont σ.S) σ.us i).1 c' (cutD D K m i) ∧ 0 ≤ (runC (σ.cs.set K { c with n := m }) (cutD D K m) (cont σ.S) σ.us i).2 ∧ (runC (σ.cs.set K { c with n := m }) (cutD D K m) (cont σ.S) σ.us i).2 ≤ 1000000000000) (hn : σ.ns + (K + 1) < 1000000) :
    Calls Try.prog 20 #[.pointer (some ⟨d, 0, none⟩), .int .i64 keep, .int .i64 torn] w fun e w' => e = .returned (.tuple #[]) ∧ ∃ W1, Fr (fun k => k = p) w W1 ∧ DInv W1 d B (cutV σ K c D m) ∧ Crashed W1 d B (cutV σ K c D m) (cutD D K m) (K + 1) w' := by
  have hlt : K < σ.cs.length := (List.getElem?_eq_some_iff.1 hc).1
  have x0 : w.cell? ⟨p, K * 4 + 0, none⟩ = some (.int .i64 c.k) := by
    have hr := h.row
    rw [hpv] at hr
    rw [hr.cellAt (K * 4 + 0) (by omega), flat_at σ.cs K c 0 hc (by omega)]
    rfl
  simp only [Nat.add_zero] at x0
  have x3 : w.cell? ⟨p, K * 4 + 3, none⟩ = some (.slice c.A c.n c.c) := by
    have hr := h.row
    rw [hpv] at hr
    rw [hr.cellAt (K * 4 + 3) (by omega), flat_at σ.cs K c 3 hc (by omega)]
    rfl
  have f3 : w.frozen? ⟨p, K * 4 + 3, none⟩ = false := by
    have hr := h.row
    rw [hpv] at hr
    exact hr.frozenAt _
  have hcn : c.n = (D K).length := by
    obtain ⟨l', e1, e2⟩ := h.pend K c hc
    rw [hD K c hc] at e1
    cases e1
    exact e2
  rw [hcn] at x3
  rw [hno] at x0
  have hml : m ≤ (D K).length := by omega
  have h1 := h.cut hpv hc (hD K c hc) hml
  obtain ⟨_, hlc, _⟩ := (h.fam.rd _ _ _ (hD K c hc)).le _ _ _ rfl
  have hmc : m ≤ c.c := by omega
  have g4 := (h.cel.cell 4).trans dc4
  rw [hpv] at g4
  have hD1 : ∀ i c', (σ.cs.set K { c with n := m })[i]? = some c' → upd σ.S (.pend K) (some (.slice c.A m c.c, (D K).take m)) (.pend i) = some (.slice c'.A c'.n c'.c, cutD D K m i) := by
    intro i c' hi
    unfold cutD
    by_cases hiK : K = i
    · subst hiK
      rw [List.getElem?_set_self hlt] at hi
      cases hi
      rw [upd_same, if_pos rfl]
    · rw [List.getElem?_set_ne hiK] at hi
      rw [upd_other _ _ (by simp; omega), if_neg (fun e => hiK e.symm)]
      exact hD i c' hi
  have hcont : cont (upd σ.S (.pend K) (some (.slice c.A m c.c, (D K).take m))) = cont σ.S := by
    funext x
    unfold cont
    rw [upd_other _ _ (by simp)]
  obtain ⟨W, hW⟩ : ∃ W, w.setCell ⟨p, K * 4 + 3, none⟩ (.slice c.A m c.c) = W := ⟨_, rfl⟩
  have hfW : Fr (fun k => k = p) w W.drew := by rw [← hW]; exact (Fr.set w p _ _).trans (Fr.drew _ _)
  rw [hW] at h1
  have h2 : DInv W.drew d B (cutV σ K c D m) := h1.keep (Fr.drew _ _)
  have hT := (settle_inv W.drew d B (cutV σ K c D m) (K + 1) (cutD D K m) h2 (by show K + 1 ≤ (σ.cs.set K { c with n := m }).length; rw [List.length_set]; omega) hD1 (by show ∀ i c', i < K + 1 → (σ.cs.set K { c with n := m })[i]? = some c' → okC (runC (σ.cs.set K { c with n := m }) (cutD D K m) (cont (upd σ.S (.pend K) (some (.slice c.A m c.c, (D K).take m)))) σ.us i).1 c' (cutD D K m i) ∧ _; rw [hcont]; exact hok) (by show σ.ns + (K + 1) ≤ 1000000; omega))
  rw [Int.natCast_add, Int.natCast_one] at hT
  have HT := Lib.hid hT
  have tn : decide (0 < torn) = true := by simpa using hto
  have tk : decide ((K : Int) < (σ.cs.length : Int)) = true := by simpa using hlt
  clear hD hok hno hto hD1 hcont h1 hT
  go_enter Try.func20, Try.ntmps20
  go_wp2_with fail
  go_region_with fail
  all_goals
    go_wp2_with fail
    refine HT.out.mono ?_
    rintro e w2 ⟨rfl, σ', hS⟩
    have hns : σ'.ns < 1000000 := by
      have h5 := hS.ns
      have h6 : (cutV σ K c D m).ns = σ.ns := rfl
      omega
    have HW := Lib.hid (hS.inv.twin_call hns)
    go_wp2_with fail
    refine HW.out.mono ?_
    rintro e w3 ⟨b, rfl, hge, hM, hf⟩
    have hI3 := hS.inv.keep hf
    have c0 := (hI3.cel.cell 0).trans dc0
    have c1 := (hI3.cel.cell 1).trans dc1
    have c6 := (hI3.cel.cell 6).trans dc6
    have c8 := (hI3.cel.cell 8).trans dc8
    have f0 := hI3.cel.fz 0
    have f1 := hI3.cel.fz 1
    have f6 := hI3.cel.fz 6
    have f8 := hI3.cel.fz 8
    go_wp2
    go_end0
    have hF := (((Fr.set w3 d 0 (.map (some b))).trans (Fr.set _ d 1 (.int .i64 σ'.us))).trans (Fr.set _ d 8 (.bool false))).trans (Fr.set _ d 6 (.int .i64 0))
    exact ⟨rfl, W.drew, hfW, h2, w2, σ', b, hS, hge, hS.inv.twin hge hM hf ((((hI3.cel.set 0 _).set 1 _).set 8 _).set 6 _) hF, (hf.mono (fun _ h => h.elim)).trans hF⟩

end Go.Proofs.Ytbdmlenapccdnaa
