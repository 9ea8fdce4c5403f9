/- settle, over a disk in memory. -/
import Derived.Test.YtpljmoiemmaecaaDp
namespace Go.Proofs.Ytpljmoiemmaecaa
open Go.RowKit

abbrev Cont := ByteArray → Option (List Int)
/-- what is safe, by name -/
def cont (S : Fam) : Cont := fun x => (S (.safe x)).map Prod.snd
/-- a change laid upon it -/
def doC (F : Cont) (c : Ch) (data : List Int) : Cont :=
  if c.k = 0 then fun x => if x = c.s then some ((F c.s).getD [] ++ data) else F x
  else if c.k = 1 then fun x => if x = c.s then none else if x = c.t then F c.s else F x
  else fun x => if x = c.s then none else F x
def doU (F : Cont) (c : Ch) (data : List Int) (us : Int) : Int :=
  if c.k = 0 then us + data.length else if c.k = 1 then us - ((F c.t).getD []).length else us - ((F c.s).getD []).length
def okC (F : Cont) (c : Ch) (data : List Int) : Prop :=
  c.s.size ≤ maxLen ∧ c.t.size ≤ maxLen ∧ (c.k = 0 ∧ ((F c.s).getD []).length + data.length ≤ 100000000 ∨ c.k = 1 ∧ c.s ≠ c.t ∧ (∃ l, F c.s = some l) ∧ ((F c.t).getD []).length ≤ 100000000 ∨ c.k = 2 ∧ (∃ l, F c.s = some l) ∧ ((F c.s).getD []).length ≤ 100000000)

theorem cont_some {S : Fam} {x : ByteArray} {l : List Int} (h : cont S x = some l) : ∃ v, S (.safe x) = some (v, l) := by
  unfold cont at h
  cases hS : S (.safe x) with
  | none => rw [hS] at h; cases h
  | some y => rw [hS] at h; obtain ⟨v, m⟩ := y; cases h; exact ⟨v, rfl⟩
theorem cont_getD (S : Fam) (x : ByteArray) : ∃ v, (S (.safe x)).getD (nilS, []) = (v, (cont S x).getD []) := by
  unfold cont
  cases hS : S (.safe x) with
  | none => exact ⟨nilS, rfl⟩
  | some y => obtain ⟨v, m⟩ := y; exact ⟨v, rfl⟩

theorem safe_any (w : World) (d B : Nat) (σ : Dv) (i : Nat) (c : Ch) (data : List Int) (h : DInv w d B σ) (hc : σ.cs[i]? = some c) (hi : σ.S (.pend i) = some (.slice c.A c.n c.c, data)) (hok : okC (cont σ.S) c data) (hu : 0 ≤ σ.us ∧ σ.us ≤ 1000000000000) (hn : σ.ns < 1000000) :
    Calls Try.prog 41 #[.pointer (some ⟨d, 2, none⟩), c.val] w fun e w' => e = .returned (.tuple #[]) ∧ ∃ σ', SafeStep w d B σ σ' w' ∧ cont σ'.S = doC (cont σ.S) c data ∧ σ'.us = doU (cont σ.S) c data σ.us ∧ σ'.ns ≤ σ.ns + 1 := by
  obtain ⟨hs, ht, hok⟩ := hok
  have hiv : isS (.slice c.A c.n c.c) = true := (h.fam.rd _ _ _ hi).isS
  rcases hok with ⟨hk, hl⟩ | ⟨hk, hst, ⟨l, hl⟩, hl2⟩ | ⟨hk, ⟨l, hl⟩, hl2⟩
  · obtain ⟨v0, hp⟩ := cont_getD σ.S c.s
    have hcn : c.n = data.length := by
      obtain ⟨l', e1, e2⟩ := h.pend i c hc
      rw [hi] at e1
      cases e1
      exact e2
    refine (safe_write w d B σ i c data _ v0 h hk hi hcn hp hs hl hu hn).mono ?_
    rintro e w' ⟨rfl, b, v', hS⟩
    refine ⟨rfl, _, hS, ?_, ?_, Nat.le_refl _⟩
    · funext x
      unfold doC
      rw [if_pos hk]
      by_cases hx : x = c.s
      · subst hx
        simp only [if_true]
        show (upd σ.S (.safe c.s) (some (v', (cont σ.S c.s).getD [] ++ data)) (.safe c.s)).map Prod.snd = _
        rw [upd_same]
        rfl
      · simp only [if_neg hx]
        show (upd σ.S (.safe c.s) (some (v', (cont σ.S c.s).getD [] ++ data)) (.safe x)).map Prod.snd = _
        rw [upd_other _ _ (by simpa using hx)]
        rfl
    · unfold doU
      rw [if_pos hk]
  · obtain ⟨v, hp⟩ := cont_some hl
    obtain ⟨v1, hp1⟩ := cont_getD σ.S c.t
    refine (safe_move w d B σ c v v1 l _ h hk hiv hp hp1 hst hs ht hl2 hu hn).mono ?_
    rintro e w' ⟨rfl, hS⟩
    refine ⟨rfl, _, hS, ?_, ?_, Nat.le_refl _⟩
    · funext x
      unfold doC
      rw [if_neg (by omega), if_pos hk]
      show (famMoveS σ.S c.s c.t (.safe x)).map Prod.snd = _
      unfold famMoveS
      by_cases hx : x = c.s
      · simp [hx]
      · by_cases hy : x = c.t
        · subst hy; simp [hx, cont]
        · simp [hx, hy, cont]
    · unfold doU
      rw [if_neg (by omega), if_pos hk]
  · obtain ⟨v, hp⟩ := cont_some hl
    rw [hl] at hl2
    refine (safe_drop w d B σ c v l h hk hiv hp hs hl2 hu).mono ?_
    rintro e w' ⟨rfl, hS⟩
    refine ⟨rfl, _, hS, ?_, ?_, Nat.le_succ _⟩
    · funext x
      unfold doC
      rw [if_neg (by omega), if_neg (by omega)]
      show (upd σ.S (.safe c.s) none (.safe x)).map Prod.snd = _
      unfold upd
      by_cases hx : x = c.s
      · simp [hx]
      · simp [hx, cont]
    · unfold doU
      rw [if_neg (by omega), if_neg (by omega), hl]
      rfl

/-- the first i changes, one behind another -/
def runC (cs : List Ch) (D : Nat → List Int) (F : Cont) (us : Int) : Nat → Cont × Int
  | 0 => (F, us)
  | i + 1 => match cs[i]? with
    | some c => (doC (runC cs D F us i).1 c (D i), doU (runC cs D F us i).1 c (D i) (runC cs D F us i).2)
    | none => runC cs D F us i

/-- a disk in memory of which i changes are safe -/
structure SetI (w : World) (d B : Nat) (σ : Dv) (D : Nat → List Int) (i : Nat) (W : World) (σi : Dv) : Prop where
  inv : DInv W d B σi
  fr : Fr (foot d σ) w W
  ft : ∀ k, foot d σi k → foot d σ k ∨ w.heap.size ≤ k
  con : cont σi.S = (runC σ.cs D (cont σ.S) σ.us i).1
  us : σi.us = (runC σ.cs D (cont σ.S) σ.us i).2
  ns : σi.ns ≤ σ.ns + i
  now : ∀ x, σi.S (.now x) = σ.S (.now x)
  pen : ∀ j, σi.S (.pend j) = σ.S (.pend j)
  rest : σi = { σ with S := σi.S, ms := σi.ms, ns := σi.ns, us := σi.us }

/-- a disk in memory with nothing pending -/
def famRest (S : Fam) : Fam := fun q => match q with
  | .pend _ => none
  | .now x => S (.now x)
  | .safe x => S (.safe x)
theorem famRest_ok {w : World} {S : Fam} (h : FamOk w S) : FamOk w (famRest S) :=
  h.sub id (fun p x e => by
    cases p with
    | now y => exact e
    | safe y => exact e
    | pend j => cases e) (fun p q x y e e' hpq => hpq) (fun _ => rfl)

structure Settled (w : World) (d B : Nat) (σ : Dv) (D : Nat → List Int) (keep : Nat) (w' : World) (σ' : Dv) : Prop where
  inv : DInv w' d B σ'
  fr : Fr (foot d σ) w w'
  ft : ∀ k, foot d σ' k → foot d σ k ∨ w.heap.size ≤ k
  con : cont σ'.S = (runC σ.cs D (cont σ.S) σ.us keep).1
  us : σ'.us = (runC σ.cs D (cont σ.S) σ.us keep).2
  ns : σ'.ns ≤ σ.ns + keep
  now : ∀ x, σ'.S (.now x) = σ.S (.now x)
  rest : σ' = { σ with S := σ'.S, ms := σ'.ms, ns := σ'.ns, us := σ'.us, pv := σ'.pv, cs := [] }

/-- the changes forgotten -/
theorem SetI.done {w W w' : World} {d B keep : Nat} {σ σi : Dv} {D : Nat → List Int} {pv' : Value} (h : SetI w d B σ D keep W σi) (hpv : pv'.ownBlock = σ.pv.ownBlock) (hC : Cel w' d 61 (dc σ.mn σ.un σi.ms σi.us pv' σ.room σ.fuse σ.steps σ.off))
    (hrow : w'.ownsRow B 69 4 pv' 0 []) (hf : Fr (fun k => k = d ∨ σ.pv.ownBlock = some k) W w') :
    Settled w d B σ D keep w' { σ with S := famRest σi.S, ms := σi.ms, ns := σi.ns, us := σi.us, pv := pv', cs := [] } := by
  have hr := h.rest
  have hpvi : σi.pv = σ.pv := by rw [hr]
  have hmni : σi.mn = σ.mn := by rw [hr]
  have hnni : σi.nn = σ.nn := by rw [hr]
  have hi := h.inv
  have hfi := hi.fn
  rw [hmni, hnni] at hfi
  have hrowi := hi.row
  rw [hpvi] at hrowi
  have hVn : vnow (famRest σi.S) = vnow σi.S := rfl
  have hVs : vsafe (famRest σi.S) = vsafe σi.S := rfl
  refine ⟨⟨hC, ?_, ?_, ?_, ?_, hrow, fun i c e => by simp at e, fun i _ => rfl⟩, h.fr.then hf ?_, ?_, ?_, h.us, h.ns, h.now, rfl⟩
  · show Files w' σ.mn σ.nn (vnow (famRest σi.S))
    rw [hVn]
    exact hfi.fr hf (fun b e => by
      rintro (hk | hk)
      · exact hi.cel.ne_map (hfi.map e) hk.symm
      · exact row_ne_map hrowi (hfi.map e) hk)
  · show Files w' σi.ms σi.ns (vsafe (famRest σi.S))
    rw [hVs]
    exact hi.fs.fr hf (fun b e => by
      rintro (hk | hk)
      · exact hi.cel.ne_map (hi.fs.map e) hk.symm
      · exact row_ne_map hrowi (hi.fs.map e) hk)
  · have hF := famRest_ok hi.fam
    refine hF.keep (fun p u k e => (hF.rd p u k e).fr hf (fun g eg => ?_))
    rintro (hk | hk)
    · exact hi.cel.ne_rd (hF.rd p u k e) (by decide) (by rw [eg, hk])
    · exact row_ne_rd hrowi (hF.rd p u k e) hk eg
  · intro b e
    exact hi.mm b (by rw [hmni]; exact e)
  · intro k hk
    rcases hk with hk | hk
    · exact .inl (.inl hk)
    · exact .inl (.inr (.inr (.inr (.inl hk))))
  · rintro k (hk | hk | hk | hk | ⟨p, u, m, e, hk⟩)
    · exact .inl (.inl hk)
    · exact .inl (.inr (.inl hk))
    · exact h.ft k (.inr (.inr (.inl hk)))
    · exact .inl (.inr (.inr (.inr (.inl (by rw [← hpv]; exact hk)))))
    · have e : famRest σi.S p = some (u, m) := e
      refine h.ft k (.inr (.inr (.inr (.inr ⟨p, u, m, ?_, hk⟩))))
      cases p with
      | now y => exact e
      | safe y => exact e
      | pend j => cases e
  · exact h.con

theorem settle_inv (w : World) (d B : Nat) (σ : Dv) (keep : Nat) (D : Nat → List Int) (h : DInv w d B σ) (hk : keep ≤ σ.cs.length)
    (hD : ∀ i c, σ.cs[i]? = some c → σ.S (.pend i) = some (.slice c.A c.n c.c, D i))
    (hok : ∀ i c, i < keep → σ.cs[i]? = some c → okC (runC σ.cs D (cont σ.S) σ.us i).1 c (D i) ∧ 0 ≤ (runC σ.cs D (cont σ.S) σ.us i).2 ∧ (runC σ.cs D (cont σ.S) σ.us i).2 ≤ 1000000000000) (hn : σ.ns + keep ≤ 1000000) :
    Calls Try.prog 36 #[.pointer (some ⟨d, 0, none⟩), .int .i64 keep] w fun e w' => e = .returned (.tuple #[]) ∧ ∃ σ', Settled w d B σ D keep w' σ' := by
  have h0 : SetI w d B σ D 0 w σ := ⟨h, Fr.refl _ _, fun k hk => .inl hk, rfl, rfl, Nat.le_refl _, fun _ => rfl, fun _ => rfl, rfl⟩
  rcases h.row.2 with ⟨hpv, hcs⟩ | ⟨p, cap, cur, hpv, hb, hg, hnc, hcm, hcs, hxs⟩
  · obtain rfl : keep = 0 := by omega
    have hC := h.cel
    unfold Dv.cells at hC
    rw [hpv] at hC
    refine (settle_nil w d σ.mn σ.ms σ.un σ.us σ.room σ.fuse σ.steps σ.off hC).mono ?_
    rintro e w' ⟨rfl, hC', hf⟩
    refine ⟨rfl, _, h0.done (by rw [hpv]; rfl) hC' (World.ownsRow_nil w' B 69 4) (hf.mono (fun i hi => .inl (.inl hi)))⟩
  · refine (settle_some w d B p cap keep σ.cs (fun i W => ∃ σi, SetI w d B σ D i W σi) σ.mn σ.un σ.room σ.fuse σ.steps σ.off hk hnc hcm ?_ ?_ ?_ ⟨σ, h0⟩).mono ?_
    · rintro i W ⟨σi, hi⟩
      refine ⟨σi.ms, σi.us, ?_, ?_⟩
      · have hC := hi.inv.cel
        unfold Dv.cells at hC
        rw [hi.rest] at hC
        rw [← hpv]
        exact hC
      · have hr := hi.inv.row
        rw [hi.rest] at hr
        rw [← hpv]
        exact hr
    · rintro i W W' ⟨σi, hi⟩ hf
      exact ⟨σi, ⟨hi.inv.keep hf, hi.fr.then hf (fun _ h => h.elim), hi.ft, hi.con, hi.us, hi.ns, hi.now, hi.pen, hi.rest⟩⟩
    · rintro i c W W0 hlt hc ⟨σi, hi⟩ hf
      have hcsi : σi.cs = σ.cs := by rw [hi.rest]
      obtain ⟨ho, hu⟩ := hok i c hlt hc
      refine (safe_any W d B σi i c (D i) (hi.inv.keep hf) (by rw [hcsi]; exact hc) (by rw [hi.pen]; exact hD i c hc) (by rw [hi.con]; exact ho) (by rw [hi.us]; exact hu) (by have := hi.ns; omega)).mono ?_
      rintro e W' ⟨rfl, σ', hS, hcon, hus, hns⟩
      refine ⟨rfl, ⟨σ', ⟨hS.inv, (hi.fr.then hf (fun _ h => h.elim)).then hS.fr hi.ft, fun k hk => ?_, ?_, ?_, by have := hi.ns; omega, fun x => (hS.now x).trans (hi.now x), fun j => (hS.pen j).trans (hi.pen j), ?_⟩⟩, hS.fr.mono (fun k hk => .inl (hi.inv.foot_lt hk))⟩
      · rcases hS.ft k hk with hk | hk
        · exact hi.ft k hk
        · exact .inr (Nat.le_trans (Nat.le_trans hi.fr.size hf.size) hk)
      · rw [hcon, hi.con]
        simp only [runC, hc]
      · rw [hus, hi.con, hi.us]
        simp only [runC, hc]
      · have h1 := hS.rest
        have h2 := hi.rest
        rw [h2] at h1
        exact h1
    · rintro e w' ⟨rfl, w2, ms, us, ⟨σi, hi⟩, hC2, hC', hrow', hf⟩
      have hCi := hi.inv.cel
      unfold Dv.cells at hCi
      have hE : some (Obj.cells _ _ _) = some (Obj.cells _ _ _) := (show w2.heap[d]? = _ from hCi).symm.trans (show w2.heap[d]? = _ from hC2)
      injection hE with hE
      injection hE with hE
      have e2 := congrArg (fun C : Array Value => C[2]?) hE
      have e3 := congrArg (fun C : Array Value => C[3]?) hE
      simp [dc] at e2 e3
      subst e2
      subst e3
      exact ⟨rfl, _, hi.done (by rw [hpv]; rfl) hC' hrow' (hf.mono (fun k hk => .inl (by
        rcases hk with hk | hk
        · exact .inl hk
        · exact .inr (by rw [hpv, hk]; rfl))))⟩

end Go.Proofs.Ytpljmoiemmaecaa
