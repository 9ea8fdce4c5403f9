/- A move and a drop that become safe. -/
import Derived.Test.YtpljmoiemmaecaaDo
namespace Go.Proofs.Ytpljmoiemmaecaa
open Go.RowKit

/-- the family behind a move, and behind a drop, of the safe files -/
def famMoveS (S : Fam) (s t : ByteArray) : Fam := fun q => if q = .safe s then none else if q = .safe t then S (.safe s) else S q
def famDropS (S : Fam) (s : ByteArray) : Fam := upd S (.safe s) none
theorem famMoveS_ok {w : World} {S : Fam} (h : FamOk w S) (s t : ByteArray) : FamOk w (famMoveS S s t) := by
  refine h.sub (fun q => if q = .safe t then .safe s else q) (fun p x e => ?_) (fun p q x y e e' hpq => ?_) (fun p => by
    by_cases hp : p = .safe t
    · simp [hp, Slot.live]
    · simp [hp])
  · unfold famMoveS at e
    split at e
    · cases e
    · split at e
      · rename_i h1 h2
        simpa [h2] using e
      · rename_i h1 h2
        simpa [h2] using e
  · unfold famMoveS at e e'
    by_cases hp : p = .safe t
    · by_cases hq : q = .safe t
      · exact absurd (hp.trans hq.symm) hpq
      · by_cases hqs : q = .safe s
        · rw [if_pos hqs] at e'; cases e'
        · simp only [if_pos hp, if_neg hq]
          exact fun e => hqs e.symm
    · by_cases hps : p = .safe s
      · rw [if_pos hps] at e; cases e
      · by_cases hq : q = .safe t
        · simp only [if_neg hp, if_pos hq]
          exact hps
        · simp only [if_neg hp, if_neg hq]
          exact hpq

theorem ms_some {w : World} {d B : Nat} {σ : Dv} (h : DInv w d B σ) {s : ByteArray} {x : Value × List Int} (e : σ.S (.safe s) = some x) : ∃ b, σ.ms = some b := by
  rcases h.fs with ⟨_, hV⟩ | ⟨b, hb, _⟩
  · have := congrFun hV s
    unfold vsafe at this
    rw [e] at this
    cases this
  · exact ⟨b, hb⟩

/-- a step that turns the map of safe alone, and lays no bytes -/
theorem safe_plain {w w2 : World} {d B : Nat} {σ : Dv} {b : Nat} {ns' : Nat} {us' : Int} {S' : Fam} (h : DInv w d B σ) (hms : σ.ms = some b)
    (hS : FamOk w S') (hS1 : ∀ p v l, S' p = some (v, l) → ∃ q, σ.S q = some (v, l)) (hS2 : ∀ x, S' (.now x) = σ.S (.now x)) (hS3 : ∀ i, S' (.pend i) = σ.S (.pend i))
    (hC2 : Cel w2 d 61 (dc σ.mn σ.un (some b) us' σ.pv σ.room σ.fuse σ.steps σ.off)) (hM2 : MapV w2 b ns' (vsafe S')) (hf2 : Fr (fun k => k = d ∨ k = b) w w2) :
    SafeStep w d B σ { σ with S := S', ns := ns', us := us' } w2 := by
  have hup2 : ∀ u k, RdB w u k → RdB w2 u k := fun u k hu => hu.fr hf2 (fun g e => by
    rintro (hk | hk)
    · exact h.cel.ne_rd hu (by decide) (by rw [e, hk])
    · exact map_ne_rd (h.fs.map hms) hu (by rw [e, hk]))
  refine ⟨⟨by rw [← hms] at hC2; exact hC2, ?_, ?_, hS.keep (fun p u k e => hup2 u k (hS.rd p u k e)), h.mm, ?_, ?_, ?_⟩, hf2.mono (fun i hk => .inl ?_), ?_, hS2, hS3, rfl⟩
  · have hV : vnow S' = vnow σ.S := by
      funext x
      unfold vnow
      rw [hS2]
    show Files w2 σ.mn σ.nn (vnow S')
    rw [hV]
    exact h.fn.fr hf2 (fun b' e => by
      rintro (hk | hk)
      · exact h.cel.ne_map (h.fn.map e) hk.symm
      · exact h.mm _ e (by rw [hk]; exact hms))
  · exact .inr ⟨b, hms, hM2⟩
  · exact own_fr h.row hf2 (fun g e => by
      rintro (hk | hk)
      · exact row_ne h.row h.cel (by decide) (by rw [e, hk])
      · exact row_ne_map h.row (h.fs.map hms) (by rw [e, hk]))
  · intro j c' hj
    obtain ⟨l', e1, e2⟩ := h.pend j c' hj
    exact ⟨l', by show S' (.pend j) = _; rw [hS3]; exact e1, e2⟩
  · intro j hj
    show S' (.pend j) = _
    rw [hS3]
    exact h.pend0 j hj
  · rcases hk with hk | hk
    · exact .inl hk
    · exact .inr (.inr (.inl (by rw [hk]; exact hms)))
  · rintro k (hk | hk | hk | hk | ⟨p, u, m, e, hk⟩)
    · exact .inl (.inl hk)
    · exact .inl (.inr (.inl hk))
    · exact .inl (.inr (.inr (.inl hk)))
    · exact .inl (.inr (.inr (.inr (.inl hk))))
    · obtain ⟨q, hq⟩ := hS1 p u m e
      exact .inl (.inr (.inr (.inr (.inr ⟨q, u, m, hq, hk⟩))))

theorem safe_drop (w : World) (d B : Nat) (σ : Dv) (c : Ch) (v : Value) (l : List Int) (h : DInv w d B σ) (hk : c.k = 2) (hiv : isS (.slice c.A c.n c.c) = true) (hp : σ.S (.safe c.s) = some (v, l)) (hs : c.s.size ≤ maxLen) (hl : l.length ≤ 100000000) (hu : 0 ≤ σ.us ∧ σ.us ≤ 1000000000000) :
    Calls Try.prog 41 #[.pointer (some ⟨d, 2, none⟩), c.val] w fun e w' => e = .returned (.tuple #[]) ∧ SafeStep w d B σ { σ with S := famDropS σ.S c.s, ns := σ.ns, us := σ.us - l.length } w' := by
  obtain ⟨b, hms⟩ := ms_some h hp
  have hvs : (vsafe σ.S c.s).getD nilS = v := by unfold vsafe; rw [hp]; rfl
  unfold Ch.val
  rw [hk]
  refine (apply_drop w d 2 61 σ.cells b σ.ns (vsafe σ.S) c.s c.t l σ.us (.slice c.A c.n c.c) h.cel (by unfold Dv.cells; rw [hms]; rfl) rfl (h.fs.map hms) hs (by rw [hvs]; exact h.fam.rd _ _ _ hp) hl hu hiv).mono ?_
  rintro e w2 ⟨rfl, hC2, hM2, hf2⟩
  rw [cells_set3 σ b hms] at hC2
  refine ⟨rfl, safe_plain h hms (h.fam.drop _) (fun p u k e => ?_) (fun x => upd_other _ _ (by simp)) (fun i => upd_other _ _ (by simp)) hC2 ?_ hf2⟩
  · unfold famDropS at e
    by_cases hq : p = .safe c.s
    · subst hq; rw [upd_same] at e; cases e
    · rw [upd_other _ _ hq] at e; exact ⟨p, e⟩
  · have hV : vsafe (famDropS σ.S c.s) = fun x => if x = c.s then none else vsafe σ.S x := by
      funext x
      unfold vsafe famDropS upd
      by_cases hx : x = c.s
      · subst hx; simp
      · simp [hx]
    rw [hV]
    exact hM2

theorem safe_move (w : World) (d B : Nat) (σ : Dv) (c : Ch) (v v1 : Value) (l l1 : List Int) (h : DInv w d B σ) (hk : c.k = 1) (hiv : isS (.slice c.A c.n c.c) = true) (hp : σ.S (.safe c.s) = some (v, l)) (ht1 : (σ.S (.safe c.t)).getD (nilS, []) = (v1, l1)) (hst0 : c.s ≠ c.t) (hs : c.s.size ≤ maxLen) (ht : c.t.size ≤ maxLen) (hl : l1.length ≤ 100000000) (hu : 0 ≤ σ.us ∧ σ.us ≤ 1000000000000) (hn : σ.ns < 1000000) :
    Calls Try.prog 41 #[.pointer (some ⟨d, 2, none⟩), c.val] w fun e w' => e = .returned (.tuple #[]) ∧ SafeStep w d B σ { σ with S := famMoveS σ.S c.s c.t, ns := σ.ns + 1, us := σ.us - l1.length } w' := by
  obtain ⟨b, hms⟩ := ms_some h hp
  have hvs : (vsafe σ.S c.s).getD nilS = v := by unfold vsafe; rw [hp]; rfl
  have hvt : (vsafe σ.S c.t).getD nilS = v1 := by
    unfold vsafe
    cases hS : σ.S (.safe c.t) with
    | none => rw [hS] at ht1; cases ht1; rfl
    | some x => rw [hS] at ht1; cases ht1; rfl
  have hrd1 : RdB w v1 l1 := by
    cases hS : σ.S (.safe c.t) with
    | none => rw [hS] at ht1; cases ht1; exact RdB.nil
    | some x => rw [hS] at ht1; cases ht1; exact h.fam.rd _ _ _ hS
  unfold Ch.val
  rw [hk]
  refine (apply_move w d 2 61 σ.cells b σ.ns (vsafe σ.S) c.s c.t l1 σ.us (.slice c.A c.n c.c) hst0 v hvs (h.fam.rd _ _ _ hp).isS h.cel (by unfold Dv.cells; rw [hms]; rfl) rfl (h.fs.map hms) hs ht (by rw [hvt]; exact hrd1) hl hu hn hiv).mono ?_
  rintro e w2 ⟨rfl, hC2, hM2, hf2⟩
  rw [cells_set3 σ b hms] at hC2
  refine ⟨rfl, safe_plain h hms (famMoveS_ok h.fam _ _) (fun p u k e => ?_) (fun x => by simp [famMoveS]) (fun i => by simp [famMoveS]) hC2 ?_ hf2⟩
  · unfold famMoveS at e
    split at e
    · cases e
    · split at e
      · exact ⟨_, e⟩
      · exact ⟨_, e⟩
  · have hV : vsafe (famMoveS σ.S c.s c.t) = fun x => if x = c.s then none else if x = c.t then some v else vsafe σ.S x := by
      funext x
      unfold vsafe famMoveS
      by_cases hx : x = c.s
      · subst hx; simp
      · by_cases hy : x = c.t
        · subst hy; simp [hx, hp]
        · simp [hx, hy]
    rw [hV]
    exact hM2

end Go.Proofs.Ytpljmoiemmaecaa
