/- A disk in memory; a write as a change. -/
import Derived.Test.YtpljmoiemmaecaaDe
namespace Go.Proofs.Ytpljmoiemmaecaa
open Go.RowKit

/-- a disk: what its cells, maps, slices are -/
structure Dv where
  S : Fam
  mn : Option Nat
  ms : Option Nat
  nn : Nat
  ns : Nat
  un : Int
  us : Int
  room : Int
  fuse : Int
  steps : Int
  pv : Value
  off : Bool
  cs : List Ch
def Dv.cells (σ : Dv) : Array Value := dc σ.mn σ.un σ.ms σ.us σ.pv σ.room σ.fuse σ.steps σ.off
def vnow (S : Fam) (x : ByteArray) : Option Value := (S (.now x)).map Prod.fst
def vsafe (S : Fam) (x : ByteArray) : Option Value := (S (.safe x)).map Prod.fst

structure DInv (w : World) (d B : Nat) (σ : Dv) : Prop where
  cel : Cel w d 61 σ.cells
  fn : Files w σ.mn σ.nn (vnow σ.S)
  fs : Files w σ.ms σ.ns (vsafe σ.S)
  fam : FamOk w σ.S
  mm : ∀ b, σ.mn = some b → σ.ms ≠ some b
  row : w.ownsRow B 69 4 σ.pv σ.cs.length (σ.cs.flatMap Ch.cells)
  pend : ∀ i c, σ.cs[i]? = some c → ∃ l, σ.S (.pend i) = some (.slice c.A c.n c.c, l) ∧ c.n = l.length
  pend0 : ∀ i, σ.cs.length ≤ i → σ.S (.pend i) = none

theorem RdB.fr {S : Nat → Prop} {w w' : World} {v : Value} {l : List Int} (h : RdB w v l) (hf : Fr S w w') (hne : ∀ g, v.ownBlock = some g → ¬ S g) : RdB w' v l :=
  h.ofBlock (fun g e => hf.block g (h.lt e) (hne g e))
theorem MapV.fr {S : Nat → Prop} {w w' : World} {b n : Nat} {V : ByteArray → Option Value} (h : MapV w b n V) (hf : Fr S w w') (hne : ¬ S b) : MapV w' b n V := h.ofBlock (hf.block b h.lt hne)
theorem Files.fr {S : Nat → Prop} {w w' : World} {m : Option Nat} {n : Nat} {V : ByteArray → Option Value} (h : Files w m n V) (hf : Fr S w w') (hne : ∀ b, m = some b → ¬ S b) : Files w' m n V := by
  rcases h with h | ⟨b, rfl, h⟩
  · exact .inl h
  · exact .inr ⟨b, rfl, h.fr hf (hne b rfl)⟩
theorem Files.lt {w : World} {m : Option Nat} {n : Nat} {V : ByteArray → Option Value} (h : Files w m n V) {b : Nat} (e : m = some b) : b < w.heap.size := by
  rcases h with ⟨h, _⟩ | ⟨b', h, hM⟩
  · rw [h] at e; cases e
  · rw [h] at e; cases e; exact hM.lt
theorem Files.map {w : World} {m : Option Nat} {n : Nat} {V : ByteArray → Option Value} (h : Files w m n V) {b : Nat} (e : m = some b) : MapV w b n V := by
  rcases h with ⟨h, _⟩ | ⟨b', h, hM⟩
  · rw [h] at e; cases e
  · rw [h] at e; cases e; exact hM
theorem DInv.keep {w w' : World} {d B : Nat} {σ : Dv} (h : DInv w d B σ) (hf : Fr (fun _ => False) w w') : DInv w' d B σ :=
  ⟨h.cel.of (hf.block d h.cel.lt (fun h => h)), h.fn.fr hf (fun _ _ h => h), h.fs.fr hf (fun _ _ h => h), h.fam.keep (fun p v l e => (h.fam.rd p v l e).fr hf (fun _ _ h => h)), h.mm, own_fr h.row hf (fun _ _ h => h), h.pend, h.pend0⟩
/-- rows of changes, maps, rows of bytes lie apart -/
theorem row_ne_map {w : World} {B n b m : Nat} {v : Value} {xs : List Value} {V : ByteArray → Option Value} (h : w.ownsRow B 69 4 v n xs) (hM : MapV w b m V) : v.ownBlock ≠ some b := by
  rcases h.2 with ⟨rfl, _⟩ | ⟨g, cap, cur, rfl, _, hh, _⟩
  · simp [Value.ownBlock]
  · intro e
    obtain rfl : g = b := by injection e
    obtain ⟨D, ⟨es, cl, h1, _⟩, _⟩ := hM
    rw [hh] at h1
    cases h1
theorem row_ne_rd {w : World} {B n : Nat} {v u : Value} {xs : List Value} {l : List Int} {g : Nat} (h : w.ownsRow B 69 4 v n xs) (hu : RdB w u l) (e1 : v.ownBlock = some g) (e2 : u.ownBlock = some g) : False := by
  rcases h.2 with ⟨rfl, _⟩ | ⟨g1, cap, cur, rfl, _, hh, _⟩
  · cases e1
  · rcases hu with ⟨rfl, _⟩ | ⟨g2, cap2, cur2, rfl, hg2, _⟩
    · cases e2
    · cases e1
      cases e2
      rw [hh] at hg2
      injection hg2 with hg2
      injection hg2 with _ hg2
      exact absurd hg2 (by decide)

def foot (d : Nat) (σ : Dv) (k : Nat) : Prop := k = d ∨ σ.mn = some k ∨ σ.ms = some k ∨ σ.pv.ownBlock = some k ∨ ∃ p v l, σ.S p = some (v, l) ∧ v.ownBlock = some k
theorem DInv.foot_lt {w : World} {d B : Nat} {σ : Dv} (h : DInv w d B σ) {k : Nat} (hk : foot d σ k) : k < w.heap.size := by
  rcases hk with rfl | hk | hk | hk | ⟨p, v, l, e, hk⟩
  · exact h.cel.lt
  · exact h.fn.lt hk
  · exact h.fs.lt hk
  · exact (h.row.lt k hk).2
  · exact (h.fam.rd p v l e).lt hk

theorem change_write (w : World) (d B : Nat) (σ : Dv) (s t : ByteArray) (A : Option Addr) (cc : Nat) (data l : List Int) (v0 : Value) (h : DInv w d B σ) (hB : B ≤ w.heap.size) (hp : (σ.S (.now s)).getD (nilS, []) = (v0, l)) (hs : s.size ≤ maxLen)
    (hd : RdB w (.slice A data.length cc) data) (hfr : ∀ g, (Value.slice A data.length cc).ownBlock = some g → ¬ foot d σ g) (hl : l.length + data.length ≤ 100000000) (hu : 0 ≤ σ.un ∧ σ.un ≤ 1000000000000) (hn : σ.nn < 1000000) (hc : σ.cs.length ≤ 1000000)
    (code fuse' steps' : Int) (off' : Bool)
    (hst : ∀ w3 pv' mn un, Cel w3 d 61 (dc mn un σ.ms σ.us pv' σ.room σ.fuse σ.steps σ.off) → Calls Try.prog 35 #[.pointer (some ⟨d, 0, none⟩)] w3 fun e w4 => e = .returned (.int .i64 code) ∧ Cel w4 d 61 (dc mn un σ.ms σ.us pv' σ.room fuse' steps' off') ∧ Fr (fun k => k = d) w3 w4) :
    Calls Try.prog 33 #[.pointer (some ⟨d, 0, none⟩), chg 0 s t (.slice A data.length cc)] w fun e w' => e = .returned (.int .i64 code) ∧ ∃ b v' pv',
      DInv w' d B { σ with S := upd (upd σ.S (.now s) (some (v', l ++ data))) (.pend σ.cs.length) (some (.slice A data.length cc, data)), mn := some b, nn := σ.nn + 1, un := σ.un + data.length, pv := pv', cs := σ.cs ++ [⟨0, s, t, A, data.length, cc⟩], fuse := fuse', steps := steps', off := off' } ∧
      Fr (foot d σ) w w' ∧ ∀ k, foot d { σ with S := upd (upd σ.S (.now s) (some (v', l ++ data))) (.pend σ.cs.length) (some (.slice A data.length cc, data)), mn := some b, pv := pv' } k → foot d σ k ∨ (Value.slice A data.length cc).ownBlock = some k ∨ w.heap.size ≤ k := by
  have hv0 : (vnow σ.S s).getD nilS = v0 := by
    unfold vnow
    cases hS : σ.S (.now s) with
    | none => rw [hS] at hp; cases hp; rfl
    | some x => rw [hS] at hp; cases hp; rfl
  have hrd0 : RdB w v0 l := by
    cases hS : σ.S (.now s) with
    | none => rw [hS] at hp; cases hp; exact RdB.nil
    | some x => rw [hS] at hp; cases hp; exact h.fam.rd _ _ _ hS
  have hf0 : ∀ k, (k = d ∨ σ.mn = some k ∨ v0.ownBlock = some k) → foot d σ k := by
    rintro k (hk | hk | hk)
    · exact .inl hk
    · exact .inr (.inl hk)
    · cases hS : σ.S (.now s) with
      | none => rw [hS] at hp; cases hp; cases hk
      | some x => rw [hS] at hp; cases hp; exact .inr (.inr (.inr (.inr ⟨_, _, _, hS, hk⟩)))
  have key := change_gen w d B 0 s t A data.length cc (fun w2 => ∃ w1, Fr (fun _ => False) w w1 ∧ Wrote w1 d 0 61 σ.cells σ.mn σ.nn (vnow σ.S) s l data σ.un (.returned (.tuple #[])) w2) σ.ms (σ.un + data.length) σ.us σ.room σ.fuse σ.steps σ.pv σ.off σ.cs.length (σ.cs.flatMap Ch.cells) ?_ ?_ hc hB code fuse' steps' off' (fun w3 pv' mn => hst w3 pv' mn _)
  · refine key.mono ?_
    rintro e w' ⟨rfl, w2, pv', mn, ⟨w1, hf1, _, b, v', hC2, hM2, hb2, hr2, hat2, hst2, hfr2⟩, hCm, hrow2, hC', hrow', hpv, hf', hsz⟩
    have hmn : mn = some b := by
      have h1 : w2.heap[d]? = _ := hCm
      have h2 : w2.heap[d]? = _ := hC2
      rw [h1] at h2
      injection h2 with h2
      injection h2 with h2
      have := congrArg (fun C : Array Value => C[0]?) h2
      simp [dc, Dv.cells] at this
      exact this
    subst hmn
    rw [hv0] at hat2 hst2 hfr2
    have h1 := h.keep hf1
    -- the family behind apply
    have hfam2 : FamOk w2 (upd σ.S (.now s) (some (v', l ++ data))) := h1.fam.append (.now s) hp hat2 hr2 hst2
    have hlt1 : ∀ k, foot d σ k → k < w1.heap.size := fun k hk => h1.foot_lt hk
    -- blocks of the disk's own at w2
    have hmsb : ∀ b', σ.ms = some b' → b' ≠ b := by
      rintro b' e rfl
      rcases hb2 with hb | ⟨hb, hge⟩
      · exact h.mm _ hb e
      · have := h1.fs.lt e
        omega
    have hfs2 : Files w2 σ.ms σ.ns (vsafe σ.S) := h1.fs.fr hfr2 (fun b' e => by
      rintro (hk | hk | hk)
      · exact h1.cel.ne_map (h1.fs.map e) hk.symm
      · exact h.mm _ hk e
      · exact map_ne_rd (h1.fs.map e) (hrd0.fr hf1 (fun _ _ h => h)) hk)
    have hd1 : RdB w1 (.slice A data.length cc) data := hd.fr hf1 (fun _ _ h => h)
    have hd2 : RdB w2 (.slice A data.length cc) data := hd1.fr hfr2 (fun g e hk => hfr g e (hf0 g hk))
    -- all that is at w2 is at w'
    have hupR : ∀ u k, RdB w2 u k → RdB w' u k := fun u k hu => hu.fr hf' (fun g e => by
      rintro (hk | hk)
      · exact hCm.ne_rd hu (by decide) (by rw [e, hk])
      · exact row_ne_rd hrow2 hu hk e)
    have hupM : ∀ b' n V, MapV w2 b' n V → MapV w' b' n V := fun b' n V hM => hM.fr hf' (by
      rintro (hk | hk)
      · exact hCm.ne_map hM hk.symm
      · exact row_ne_map hrow2 hM hk)
    have hfam' : FamOk w' (upd (upd σ.S (.now s) (some (v', l ++ data))) (.pend σ.cs.length) (some (.slice A data.length cc, data))) := by
      refine (hfam2.keep (fun p u k e => hupR u k (hfam2.rd p u k e))).add (.pend σ.cs.length) (hupR _ _ hd2) ?_
      intro g e q u k hq eq hgu
      by_cases hqs : q = .now s
      · subst hqs
        rw [upd_same] at eq
        cases eq
        rcases hat2.own with ho | ⟨g', ho, hge⟩
        · rw [ho] at hgu
          exact hfr g e (hf0 g (.inr (.inr hgu)))
        · rw [ho] at hgu
          cases hgu
          have := hd1.lt e
          omega
      · rw [upd_other _ _ hqs] at eq
        exact hfr g e (.inr (.inr (.inr (.inr ⟨_, _, _, eq, hgu⟩))))
    refine ⟨rfl, b, v', pv', ⟨hC', .inr ⟨b, rfl, ?_⟩, ?_, hfam', ?_, ?_, ?_, ?_⟩, ?_, ?_⟩
    · have hV : vnow (upd (upd σ.S (.now s) (some (v', l ++ data))) (.pend σ.cs.length) (some (.slice A data.length cc, data))) = fun x => if x = s then some v' else vnow σ.S x := by
        funext x
        unfold vnow
        rw [upd_other _ _ (by simp)]
        by_cases hx : x = s
        · subst hx
          rw [upd_same]
          simp
        · rw [upd_other _ _ (by simpa using hx)]
          simp [hx]
      rw [hV]
      exact hupM _ _ _ hM2
    · have hV : vsafe (upd (upd σ.S (.now s) (some (v', l ++ data))) (.pend σ.cs.length) (some (.slice A data.length cc, data))) = vsafe σ.S := by
        funext x
        unfold vsafe
        rw [upd_other _ _ (by simp), upd_other _ _ (by simp)]
      rw [hV]
      exact hfs2.fr hf' (fun b' e => by
        rintro (hk | hk)
        · exact hCm.ne_map (hfs2.map e) hk.symm
        · exact row_ne_map hrow2 (hfs2.map e) hk)
    · intro b' e e'
      cases e
      exact hmsb b e' rfl
    · simp only [List.length_append, List.length_cons, List.length_nil, List.flatMap_append, List.flatMap_cons, List.flatMap_nil, List.append_nil]
      exact hrow'
    · intro i c hi
      by_cases hic : i = σ.cs.length
      · subst hic
        simp at hi
        subst hi
        exact ⟨data, upd_same _ _ _, rfl⟩
      · rw [List.getElem?_append] at hi
        split at hi
        · obtain ⟨l', e1, e2⟩ := h.pend i c hi
          exact ⟨l', by show upd (upd σ.S (.now s) (some (v', l ++ data))) (.pend σ.cs.length) (some (.slice A data.length cc, data)) (.pend i) = _; rw [upd_other _ _ (by simpa using hic), upd_other _ _ (by simp)]; exact e1, e2⟩
        · exfalso
          have : i - σ.cs.length ≠ 0 := by omega
          rw [List.getElem?_eq_none (by simp; omega)] at hi
          cases hi
    · intro i hi
      simp at hi
      show upd (upd σ.S (.now s) (some (v', l ++ data))) (.pend σ.cs.length) (some (.slice A data.length cc, data)) (.pend i) = _
      rw [upd_other _ _ (by simp; omega), upd_other _ _ (by simp)]
      exact h.pend0 i (by omega)
    · have f12 : Fr (foot d σ) w w2 := (hf1.mono (fun _ h => h.elim)).trans (hfr2.mono (fun i hk => .inl (hf0 i hk)))
      exact f12.trans (hf'.mono (fun i hk => .inl (by
        rcases hk with hk | hk
        · exact .inl hk
        · exact .inr (.inr (.inr (.inl hk))))))
    · rintro k (hk | hk | hk | hk | ⟨p, u, m, e, hk⟩)
      · exact .inl (.inl hk)
      · cases hk
        rcases hb2 with hb | ⟨_, hge⟩
        · exact .inl (.inr (.inl hb))
        · exact .inr (.inr (Nat.le_trans hf1.size hge))
      · exact .inl (.inr (.inr (.inl hk)))
      · rcases hpv with ho | ⟨g, ho, hge⟩
        · exact .inl (.inr (.inr (.inr (.inl (by rw [← ho]; exact hk)))))
        · rw [ho] at hk
          cases hk
          exact .inr (.inr (Nat.le_trans hsz hge))
      · have e : upd (upd σ.S (.now s) (some (v', l ++ data))) (.pend σ.cs.length) (some (.slice A data.length cc, data)) p = some (u, m) := e
        by_cases hpe : p = .pend σ.cs.length
        · subst hpe
          rw [upd_same] at e
          cases e
          exact .inr (.inl hk)
        · rw [upd_other _ _ hpe] at e
          by_cases hps : p = .now s
          · subst hps
            rw [upd_same] at e
            cases e
            rcases hat2.own with ho | ⟨g', ho, hge⟩
            · rw [ho] at hk
              exact .inl (hf0 k (.inr (.inr hk)))
            · rw [ho] at hk
              cases hk
              exact .inr (.inr (Nat.le_trans hf1.size hge))
          · rw [upd_other _ _ hps] at e
            exact .inl (.inr (.inr (.inr (.inr ⟨p, u, m, e, hk⟩))))
  · intro w1 hf1
    have h1 := h.keep hf1
    refine (apply_write w1 d 0 61 σ.cells σ.mn σ.nn (vnow σ.S) s t l data σ.un A cc h1.cel (by decide) rfl rfl h1.fn hs hn (by rw [hv0]; exact hrd0.fr hf1 (fun _ _ h => h)) (hd.fr hf1 (fun _ _ h => h)) hl hu).mono ?_
    intro e w2 hw
    have he : e = .returned (.tuple #[]) := hw.1
    subst he
    refine ⟨rfl, ⟨w1, hf1, hw⟩, ?_⟩
    obtain ⟨_, b, v', _, _, _, _, _, _, hfr2⟩ := hw
    rw [hv0] at hfr2
    exact hfr2.mono (fun i hk => .inl (h.foot_lt (hf0 i hk)))
  · rintro w2 ⟨w1, hf1, _, b, v', hC2, hM2, hb2, hr2, hat2, hst2, hfr2⟩
    have h1 := h.keep hf1
    rw [hv0] at hfr2
    refine ⟨some b, hC2, own_fr h1.row hfr2 (fun g e => ?_)⟩
    rintro (hk | hk | hk)
    · exact row_ne h1.row h1.cel (by decide) (by rw [e, hk])
    · exact row_ne_map h1.row (h1.fn.map hk) e
    · exact row_ne_rd h1.row (hrd0.fr hf1 (fun _ _ h => h)) e hk

end Go.Proofs.Ytpljmoiemmaecaa
