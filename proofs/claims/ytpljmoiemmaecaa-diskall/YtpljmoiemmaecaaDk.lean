/- A move and a drop as changes. -/
import Derived.Test.YtpljmoiemmaecaaDj
namespace Go.Proofs.Ytpljmoiemmaecaa
open Go.RowKit

/-- the family behind a move, and behind a drop -/
def famMove (S : Fam) (s t : ByteArray) : Fam := fun q => if q = .now s then none else if q = .now t then S (.now s) else S q
def famDrop (S : Fam) (s : ByteArray) : Fam := upd S (.now s) none
theorem famMove_ok {w : World} {S : Fam} (h : FamOk w S) (s t : ByteArray) : FamOk w (famMove S s t) := by
  refine h.sub (fun q => if q = .now t then .now s else q) (fun p x e => ?_) (fun p q x y e e' hpq => ?_) (fun p => by
    by_cases hp : p = .now t
    · simp [hp, Slot.live]
    · simp [hp])
  · unfold famMove at e
    split at e
    · cases e
    · split at e
      · rename_i h1 h2
        simpa [h2] using e
      · rename_i h1 h2
        simpa [h2] using e
  · unfold famMove at e e'
    by_cases hp : p = .now t
    · by_cases hq : q = .now t
      · exact absurd (hp.trans hq.symm) hpq
      · by_cases hqs : q = .now s
        · rw [if_pos hqs] at e'; cases e'
        · simp only [if_pos hp, if_neg hq]
          exact fun e => hqs e.symm
    · by_cases hps : p = .now s
      · rw [if_pos hps] at e; cases e
      · by_cases hq : q = .now t
        · simp only [if_neg hp, if_pos hq]
          exact hps
        · simp only [if_neg hp, if_neg hq]
          exact hpq

/-- a change whose apply turns the map of now alone, and lays no bytes -/
theorem change_plain (w : World) (d B : Nat) (σ : Dv) (kk : Int) (s t : ByteArray) (b : Nat) (nn' : Nat) (un' : Int) (S' : Fam) (h : DInv w d B σ) (hB : B ≤ w.heap.size) (hmn : σ.mn = some b) (hc : σ.cs.length ≤ 1000000)
    (hS : ∀ W, FamOk W σ.S → FamOk W S') (hS1 : ∀ p v l, S' p = some (v, l) → ∃ q, σ.S q = some (v, l)) (hS2 : ∀ x, S' (.safe x) = σ.S (.safe x)) (hS3 : ∀ i, S' (.pend i) = σ.S (.pend i))
    (hap : ∀ w1, DInv w1 d B σ → Calls Try.prog 41 #[.pointer (some ⟨d, 0, none⟩), chg kk s t (.slice none 0 0)] w1 fun e w2 => e = .returned (.tuple #[]) ∧ Cel w2 d 61 (dc (some b) un' σ.ms σ.us σ.pv σ.room σ.fuse σ.steps σ.off) ∧ MapV w2 b nn' (vnow S') ∧ Fr (fun k => k = d ∨ k = b) w1 w2)
    (code fuse' steps' : Int) (off' : Bool)
    (hst : ∀ w3 pv' mn un, Cel w3 d 61 (dc mn un σ.ms σ.us pv' σ.room σ.fuse σ.steps σ.off) → Calls Try.prog 35 #[.pointer (some ⟨d, 0, none⟩)] w3 fun e w4 => e = .returned (.int .i64 code) ∧ Cel w4 d 61 (dc mn un σ.ms σ.us pv' σ.room fuse' steps' off') ∧ Fr (fun k => k = d) w3 w4) :
    Calls Try.prog 33 #[.pointer (some ⟨d, 0, none⟩), chg kk s t (.slice none 0 0)] w fun e w' => e = .returned (.int .i64 code) ∧ ∃ pv',
      DInv w' d B { σ with S := upd S' (.pend σ.cs.length) (some (nilS, [])), nn := nn', un := un', pv := pv', cs := σ.cs ++ [⟨kk, s, t, none, 0, 0⟩], fuse := fuse', steps := steps', off := off' } ∧
      Fr (foot d σ) w w' ∧ ∀ k, foot d { σ with S := upd S' (.pend σ.cs.length) (some (nilS, [])), pv := pv' } k → foot d σ k ∨ w.heap.size ≤ k := by
  have hbs : ∀ b', σ.ms = some b' → b' ≠ b := by
    rintro b' e rfl
    exact h.mm _ hmn e
  have key := change_gen w d B kk s t none 0 0 (fun w2 => ∃ w1, Fr (fun _ => False) w w1 ∧ Cel w2 d 61 (dc (some b) un' σ.ms σ.us σ.pv σ.room σ.fuse σ.steps σ.off) ∧ MapV w2 b nn' (vnow S') ∧ Fr (fun k => k = d ∨ k = b) w1 w2) σ.ms un' σ.us σ.room σ.fuse σ.steps σ.pv σ.off σ.cs.length (σ.cs.flatMap Ch.cells) ?_ ?_ hc hB code fuse' steps' off' (fun w3 pv' mn => hst w3 pv' mn _)
  · refine key.mono ?_
    rintro e w' ⟨rfl, w2, pv', mn, ⟨w1, hf1, hC2, hM2, hf2⟩, hCm, hrow2, hC', hrow', hpv, hf', hsz⟩
    have hmn' : mn = some b := by
      have h1 : w2.heap[d]? = _ := hCm
      have h2 : w2.heap[d]? = _ := hC2
      rw [h1] at h2
      injection h2 with h2
      injection h2 with h2
      have := congrArg (fun C : Array Value => C[0]?) h2
      simp [dc] at this
      exact this
    subst hmn'
    have h1 := h.keep hf1
    have hup2 : ∀ u k, RdB w1 u k → RdB w2 u k := fun u k hu => hu.fr hf2 (fun g e => by
      rintro (hk | hk)
      · exact h1.cel.ne_rd hu (by decide) (by rw [e, hk])
      · exact map_ne_rd (h1.fn.map hmn) hu (by rw [e, hk]))
    have hfam2 : FamOk w2 S' := (hS w1 h1.fam).keep (fun p u k e => hup2 u k ((hS w1 h1.fam).rd p u k e))
    have hfs2 : Files w2 σ.ms σ.ns (vsafe σ.S) := h1.fs.fr hf2 (fun b' e => by
      rintro (hk | hk)
      · exact h1.cel.ne_map (h1.fs.map e) hk.symm
      · exact hbs b' e hk)
    have hupR : ∀ u k, RdB w2 u k → RdB w' u k := fun u k hu => hu.fr hf' (fun g e => by
      rintro (hk | hk)
      · exact hCm.ne_rd hu (by decide) (by rw [e, hk])
      · exact row_ne_rd hrow2 hu hk e)
    have hupM : ∀ b' n V, MapV w2 b' n V → MapV w' b' n V := fun b' n V hM => hM.fr hf' (by
      rintro (hk | hk)
      · exact hCm.ne_map hM hk.symm
      · exact row_ne_map hrow2 hM hk)
    have hfam' : FamOk w' (upd S' (.pend σ.cs.length) (some (nilS, []))) :=
      (hfam2.keep (fun p u k e => hupR u k (hfam2.rd p u k e))).add (.pend σ.cs.length) RdB.nil (fun g e => by cases e)
    refine ⟨rfl, pv', ⟨by rw [← hmn] at hC'; exact hC', ?_, ?_, hfam', h.mm, ?_, ?_, ?_⟩, ?_, ?_⟩
    · refine .inr ⟨b, hmn, ?_⟩
      have hV : vnow (upd S' (.pend σ.cs.length) (some (nilS, []))) = vnow S' := by
        funext x
        unfold vnow
        rw [upd_other _ _ (by simp)]
      show MapV w' b nn' (vnow (upd S' (.pend σ.cs.length) (some (nilS, []))))
      rw [hV]
      exact hupM _ _ _ hM2
    · have hV : vsafe (upd S' (.pend σ.cs.length) (some (nilS, []))) = vsafe σ.S := by
        funext x
        unfold vsafe
        rw [upd_other _ _ (by simp), hS2]
      show Files w' σ.ms σ.ns (vsafe (upd S' (.pend σ.cs.length) (some (nilS, []))))
      rw [hV]
      exact hfs2.fr hf' (fun b' e => by
        rintro (hk | hk)
        · exact hCm.ne_map (hfs2.map e) hk.symm
        · exact row_ne_map hrow2 (hfs2.map e) hk)
    · simp only [List.length_append, List.length_cons, List.length_nil, List.flatMap_append, List.flatMap_cons, List.flatMap_nil, List.append_nil]
      exact hrow'
    · intro i c hi
      by_cases hic : i = σ.cs.length
      · subst hic
        simp at hi
        subst hi
        exact ⟨[], upd_same _ _ _, rfl⟩
      · rw [List.getElem?_append] at hi
        split at hi
        · obtain ⟨l', e1, e2⟩ := h.pend i c hi
          exact ⟨l', by show upd S' (.pend σ.cs.length) (some (nilS, [])) (.pend i) = _; rw [upd_other _ _ (by simpa using hic), hS3]; exact e1, e2⟩
        · exfalso
          rw [List.getElem?_eq_none (by simp; omega)] at hi
          cases hi
    · intro i hi
      simp at hi
      show upd S' (.pend σ.cs.length) (some (nilS, [])) (.pend i) = _
      rw [upd_other _ _ (by simp; omega), hS3]
      exact h.pend0 i (by omega)
    · have f12 : Fr (foot d σ) w w2 := (hf1.mono (fun _ h => h.elim)).trans (hf2.mono (fun i hk => .inl (by
        rcases hk with hk | hk
        · exact .inl hk
        · exact .inr (.inl (by rw [hk]; exact hmn)))))
      exact f12.trans (hf'.mono (fun i hk => .inl (by
        rcases hk with hk | hk
        · exact .inl hk
        · exact .inr (.inr (.inr (.inl hk))))))
    · rintro k (hk | hk | hk | hk | ⟨p, u, m, e, hk⟩)
      · exact .inl (.inl hk)
      · exact .inl (.inr (.inl hk))
      · exact .inl (.inr (.inr (.inl hk)))
      · rcases hpv with ho | ⟨g, ho, hge⟩
        · exact .inl (.inr (.inr (.inr (.inl (by rw [← ho]; exact hk)))))
        · rw [ho] at hk
          cases hk
          exact .inr (Nat.le_trans hsz hge)
      · have e : upd S' (.pend σ.cs.length) (some (nilS, [])) p = some (u, m) := e
        by_cases hpe : p = .pend σ.cs.length
        · subst hpe
          rw [upd_same] at e
          cases e
          cases hk
        · rw [upd_other _ _ hpe] at e
          obtain ⟨q, hq⟩ := hS1 p u m e
          exact .inl (.inr (.inr (.inr (.inr ⟨q, u, m, hq, hk⟩))))
  · intro w1 hf1
    have h1 := h.keep hf1
    refine (hap w1 h1).mono ?_
    rintro e w2 ⟨rfl, hC2, hM2, hf2⟩
    refine ⟨rfl, ⟨w1, hf1, hC2, hM2, hf2⟩, hf2.mono (fun i hk => .inl ?_)⟩
    rcases hk with hk | hk
    · rw [hk]; exact h.cel.lt
    · rw [hk]; exact h.fn.lt hmn
  · rintro w2 ⟨w1, hf1, hC2, hM2, hf2⟩
    have h1 := h.keep hf1
    refine ⟨some b, hC2, own_fr h1.row hf2 (fun g e => ?_)⟩
    rintro (hk | hk)
    · exact row_ne h1.row h1.cel (by decide) (by rw [e, hk])
    · exact row_ne_map h1.row (h1.fn.map hmn) (by rw [e, hk])

/-- what a plain change leaves -/
def PlainPost (w : World) (d B : Nat) (σ : Dv) (kk : Int) (s t : ByteArray) (S' : Fam) (nn' : Nat) (un' : Int) (code fuse' steps' : Int) (off' : Bool) (e : Ending) (w' : World) : Prop :=
  e = .returned (.int .i64 code) ∧ ∃ pv', DInv w' d B { σ with S := upd S' (.pend σ.cs.length) (some (nilS, [])), nn := nn', un := un', pv := pv', cs := σ.cs ++ [⟨kk, s, t, none, 0, 0⟩], fuse := fuse', steps := steps', off := off' } ∧
      Fr (foot d σ) w w' ∧ ∀ k, foot d { σ with S := upd S' (.pend σ.cs.length) (some (nilS, [])), pv := pv' } k → foot d σ k ∨ w.heap.size ≤ k
theorem cells_set1 (σ : Dv) (b : Nat) (hmn : σ.mn = some b) (x : Int) : σ.cells.setIfInBounds (0 + 1) (.int .i64 x) = dc (some b) x σ.ms σ.us σ.pv σ.room σ.fuse σ.steps σ.off := by
  unfold Dv.cells
  rw [hmn]
  rfl
theorem mn_some {w : World} {d B : Nat} {σ : Dv} (h : DInv w d B σ) {s : ByteArray} {x : Value × List Int} (e : σ.S (.now s) = some x) : ∃ b, σ.mn = some b := by
  rcases h.fn with ⟨_, hV⟩ | ⟨b, hb, _⟩
  · have := congrFun hV s
    unfold vnow at this
    rw [e] at this
    cases this
  · exact ⟨b, hb⟩

theorem change_drop (w : World) (d B : Nat) (σ : Dv) (s : ByteArray) (v : Value) (l : List Int) (h : DInv w d B σ) (hB : B ≤ w.heap.size) (hp : σ.S (.now s) = some (v, l)) (hs : s.size ≤ maxLen) (hl : l.length ≤ 100000000) (hu : 0 ≤ σ.un ∧ σ.un ≤ 1000000000000) (hc : σ.cs.length ≤ 1000000)
    (code fuse' steps' : Int) (off' : Bool)
    (hst : ∀ w3 pv' mn un, Cel w3 d 61 (dc mn un σ.ms σ.us pv' σ.room σ.fuse σ.steps σ.off) → Calls Try.prog 35 #[.pointer (some ⟨d, 0, none⟩)] w3 fun e w4 => e = .returned (.int .i64 code) ∧ Cel w4 d 61 (dc mn un σ.ms σ.us pv' σ.room fuse' steps' off') ∧ Fr (fun k => k = d) w3 w4) :
    Calls Try.prog 33 #[.pointer (some ⟨d, 0, none⟩), chg 2 s ⟨#[]⟩ (.slice none 0 0)] w (PlainPost w d B σ 2 s ⟨#[]⟩ (famDrop σ.S s) σ.nn (σ.un - l.length) code fuse' steps' off') := by
  obtain ⟨b, hmn⟩ := mn_some h hp
  have hvs : (vnow σ.S s).getD nilS = v := by unfold vnow; rw [hp]; rfl
  refine change_plain w d B σ 2 s ⟨#[]⟩ b σ.nn (σ.un - l.length) (famDrop σ.S s) h hB hmn hc (fun W hW => hW.drop _) (fun p u k e => ?_) (fun x => upd_other _ _ (by simp)) (fun i => upd_other _ _ (by simp)) (fun w1 h1 => ?_) code fuse' steps' off' hst
  · unfold famDrop at e
    by_cases hq : p = .now s
    · subst hq; rw [upd_same] at e; cases e
    · rw [upd_other _ _ hq] at e; exact ⟨p, e⟩
  · refine (apply_drop w1 d 0 61 σ.cells b σ.nn (vnow σ.S) s ⟨#[]⟩ l σ.un (.slice none 0 0) h1.cel (by unfold Dv.cells; rw [hmn]; rfl) rfl (h1.fn.map hmn) hs (by rw [hvs]; exact h1.fam.rd _ _ _ hp) hl hu rfl).mono ?_
    rintro e w2 ⟨rfl, hC2, hM2, hf2⟩
    rw [cells_set1 σ b hmn] at hC2
    refine ⟨rfl, hC2, ?_, hf2⟩
    have hV : vnow (famDrop σ.S s) = fun x => if x = s then none else vnow σ.S x := by
      funext x
      unfold vnow famDrop upd
      by_cases hx : x = s
      · subst hx; simp
      · simp [hx]
    rw [hV]
    exact hM2

theorem change_move (w : World) (d B : Nat) (σ : Dv) (s t : ByteArray) (v v1 : Value) (l l1 : List Int) (h : DInv w d B σ) (hB : B ≤ w.heap.size) (hp : σ.S (.now s) = some (v, l)) (ht1 : (σ.S (.now t)).getD (nilS, []) = (v1, l1)) (hst0 : s ≠ t) (hs : s.size ≤ maxLen) (ht : t.size ≤ maxLen) (hl : l1.length ≤ 100000000) (hu : 0 ≤ σ.un ∧ σ.un ≤ 1000000000000) (hn : σ.nn < 1000000) (hc : σ.cs.length ≤ 1000000)
    (code fuse' steps' : Int) (off' : Bool)
    (hst : ∀ w3 pv' mn un, Cel w3 d 61 (dc mn un σ.ms σ.us pv' σ.room σ.fuse σ.steps σ.off) → Calls Try.prog 35 #[.pointer (some ⟨d, 0, none⟩)] w3 fun e w4 => e = .returned (.int .i64 code) ∧ Cel w4 d 61 (dc mn un σ.ms σ.us pv' σ.room fuse' steps' off') ∧ Fr (fun k => k = d) w3 w4) :
    Calls Try.prog 33 #[.pointer (some ⟨d, 0, none⟩), chg 1 s t (.slice none 0 0)] w (PlainPost w d B σ 1 s t (famMove σ.S s t) (σ.nn + 1) (σ.un - l1.length) code fuse' steps' off') := by
  obtain ⟨b, hmn⟩ := mn_some h hp
  have hvs : (vnow σ.S s).getD nilS = v := by unfold vnow; rw [hp]; rfl
  have hvt : (vnow σ.S t).getD nilS = v1 := by
    unfold vnow
    cases hS : σ.S (.now t) with
    | none => rw [hS] at ht1; cases ht1; rfl
    | some x => rw [hS] at ht1; cases ht1; rfl
  refine change_plain w d B σ 1 s t b (σ.nn + 1) (σ.un - l1.length) (famMove σ.S s t) h hB hmn hc (fun W hW => famMove_ok hW s t) (fun p u k e => ?_) (fun x => by simp [famMove]) (fun i => by simp [famMove]) (fun w1 h1 => ?_) code fuse' steps' off' hst
  · unfold famMove at e
    split at e
    · cases e
    · split at e
      · exact ⟨_, e⟩
      · exact ⟨_, e⟩
  · have hrd1 : RdB w1 v1 l1 := by
      cases hS : σ.S (.now t) with
      | none => rw [hS] at ht1; cases ht1; exact RdB.nil
      | some x => rw [hS] at ht1; cases ht1; exact h1.fam.rd _ _ _ hS
    refine (apply_move w1 d 0 61 σ.cells b σ.nn (vnow σ.S) s t l1 σ.un (.slice none 0 0) hst0 v hvs (h1.fam.rd _ _ _ hp).isS h1.cel (by unfold Dv.cells; rw [hmn]; rfl) rfl (h1.fn.map hmn) hs ht (by rw [hvt]; exact hrd1) hl hu hn rfl).mono ?_
    rintro e w2 ⟨rfl, hC2, hM2, hf2⟩
    rw [cells_set1 σ b hmn] at hC2
    refine ⟨rfl, hC2, ?_, hf2⟩
    have hV : vnow (famMove σ.S s t) = fun x => if x = s then none else if x = t then some v else vnow σ.S x := by
      funext x
      unfold vnow famMove
      by_cases hx : x = s
      · subst hx; simp
      · by_cases hy : x = t
        · subst hy; simp [hx, hp]
        · simp [hx, hy]
    rw [hV]
    exact hM2

end Go.Proofs.Ytpljmoiemmaecaa
