/- The slices that a disk holds: none writes into another one's bytes. -/
import Derived.Test.YtpljmoiemmaecaaDr
namespace Go.Proofs.Ytpljmoiemmaecaa
open Go.RowKit

inductive Slot where
  | now (x : ByteArray)
  | safe (x : ByteArray)
  | pend (i : Nat)
deriving DecidableEq

/-- the slices that may grow -/
def Slot.live : Slot → Bool
  | .pend _ => false
  | _ => true
abbrev Fam := Slot → Option (Value × List Int)
def upd (S : Fam) (p : Slot) (x : Option (Value × List Int)) : Fam := fun q => if q = p then x else S q
theorem upd_same (S : Fam) (p : Slot) (x : Option (Value × List Int)) : upd S p x p = x := by simp [upd]
theorem upd_other (S : Fam) {p q : Slot} (x : Option (Value × List Int)) (h : q ≠ p) : upd S p x q = S q := by simp [upd, h]

structure FamOk (w : World) (S : Fam) : Prop where
  rd : ∀ p v l, S p = some (v, l) → RdB w v l
  apart : ∀ p q v l v' l', p.live = true → p ≠ q → S p = some (v, l) → S q = some (v', l') → v.ownBlock ≠ none → v.ownBlock = v'.ownBlock → Spare v l → l'.length ≤ l.length ∧ (q.live = true → ¬ Spare v' l')

theorem FamOk.keep {w w' : World} {S : Fam} (h : FamOk w S) (hk : ∀ p v l, S p = some (v, l) → RdB w' v l) : FamOk w' S := ⟨hk, h.apart⟩
theorem FamOk.sub {w : World} {S S' : Fam} (h : FamOk w S) (f : Slot → Slot) (hf : ∀ p x, S' p = some x → S (f p) = some x) (inj : ∀ p q x y, S' p = some x → S' q = some y → p ≠ q → f p ≠ f q) (hl : ∀ p, (f p).live = p.live) : FamOk w S' :=
  ⟨fun p v l e => h.rd _ v l (hf p _ e), fun p q v l v' l' hpl hpq e e' hne hb hsp => by
    have := h.apart _ _ v l v' l' (by rw [hl]; exact hpl) (inj p q _ _ e e' hpq) (hf p _ e) (hf q _ e') hne hb hsp
    rw [hl] at this
    exact this⟩
theorem FamOk.drop {w : World} {S : Fam} (h : FamOk w S) (p : Slot) : FamOk w (upd S p none) :=
  h.sub id (fun q x e => by
    unfold upd at e
    split at e
    · cases e
    · exact e) (fun _ _ _ _ _ _ h => h) (fun _ => rfl)
theorem nil_spare : ¬ Spare nilS [] := by
  rintro ⟨A, cap, h, hc⟩
  unfold nilS at h
  injection h with _ _ h
  subst h
  simp at hc
theorem RdB.le {w : World} {v : Value} {l : List Int} (h : RdB w v l) : ∀ A n cap, v = .slice A n cap → n = l.length ∧ l.length ≤ cap ∧ (A = none → cap = 0) := by
  obtain ⟨A, cap, rfl, h1, h2, _⟩ := h.form
  rintro A' n' cap' e
  injection e with e1 e2 e3
  subst e1
  subst e2
  subst e3
  exact ⟨rfl, h2, h1⟩
theorem RdB.spare_own {w : World} {v : Value} {l : List Int} (h : RdB w v l) (hs : Spare v l) : v.ownBlock ≠ none := by
  obtain ⟨A, cap, rfl, hc⟩ := hs
  obtain ⟨_, _, h3⟩ := h.le _ _ _ rfl
  cases A with
  | none => have := h3 rfl; omega
  | some a => simp [Value.ownBlock]

theorem FamOk.add {w : World} {S : Fam} (h : FamOk w S) (p : Slot) {v : Value} {l : List Int} (hv : RdB w v l) (hfr : ∀ g, v.ownBlock = some g → ∀ q v' l', q ≠ p → S q = some (v', l') → v'.ownBlock ≠ some g) : FamOk w (upd S p (some (v, l))) := by
  constructor
  · intro q u k e
    by_cases hq : q = p
    · subst hq
      rw [upd_same] at e
      cases e
      exact hv
    · rw [upd_other _ _ hq] at e
      exact h.rd q u k e
  · intro q r u k u' k' hql hqr e e' hne hb hsp
    by_cases hq : q = p
    · subst hq
      rw [upd_same] at e
      cases e
      rw [upd_other _ _ (fun e => hqr e.symm)] at e'
      cases hg : v.ownBlock with
      | none => exact absurd hg hne
      | some g => exact absurd (hb.symm.trans hg) (hfr g hg r _ _ (fun e => hqr e.symm) e')
    · rw [upd_other _ _ hq] at e
      by_cases hr : r = p
      · subst hr
        rw [upd_same] at e'
        cases e'
        cases hg : v.ownBlock with
        | none => rw [hg] at hb; exact absurd hb hne
        | some g => exact absurd (hb.trans hg) (hfr g hg q _ _ hq e)
      · rw [upd_other _ _ hr] at e'
        exact h.apart q r _ _ _ _ hql hqr e e' hne hb hsp

theorem FamOk.append {w w' : World} {S : Fam} (h : FamOk w S) (p : Slot) {v v' : Value} {l m : List Int} (hp : (S p).getD (nilS, []) = (v, l)) (hat : AppAt w.heap.size v l m v') (hrd : RdB w' v' (l ++ m))
    (hst : ∀ t lt, RdB w t lt → (t.ownBlock = v.ownBlock → Spare v l → lt.length ≤ l.length) → RdB w' t lt) (hlp : p.live = true := by rfl) : FamOk w' (upd S p (some (v', l ++ m))) := by
  have hpc : S p = some (v, l) ∨ v = nilS ∧ l = [] := by
    cases hs : S p with
    | none => rw [hs] at hp; cases hp; exact .inr ⟨rfl, rfl⟩
    | some x => rw [hs] at hp; cases hp; exact .inl rfl
  have hv : RdB w v l := by
    rcases hpc with e | ⟨rfl, rfl⟩
    · exact h.rd p v l e
    · exact RdB.nil
  have old : ∀ q u k g, S q = some (u, k) → u.ownBlock = some g → w.heap.size ≤ g → False := by
    intro q u k g e e' hg
    have := (h.rd q u k e).lt e'
    omega
  have hqs : ∀ q u k, q ≠ p → S q = some (u, k) → u.ownBlock = v.ownBlock → Spare v l → k.length ≤ l.length ∧ (q.live = true → ¬ Spare u k) := by
    intro q u k hq e hb hsp
    rcases hpc with e' | ⟨rfl, rfl⟩
    · exact h.apart p q v l u k hlp (fun e => hq e.symm) e' e (hv.spare_own hsp) hb.symm hsp
    · exact absurd hsp nil_spare
  constructor
  · intro q u k e
    by_cases hq : q = p
    · subst hq
      rw [upd_same] at e
      cases e
      exact hrd
    · rw [upd_other _ _ hq] at e
      exact hst u k (h.rd q u k e) (fun hb hsp => (hqs q u k hq e hb hsp).1)
  · intro q r u k u' k' hql hqr e e' hne hb hsp
    by_cases hq : q = p
    · subst hq
      rw [upd_same] at e
      cases e
      rw [upd_other _ _ (fun e => hqr e.symm)] at e'
      rcases hat with ⟨A, cap, rfl, rfl, hc⟩ | ⟨g, hg, hge⟩
      · have hb' : u'.ownBlock = (Value.slice A l.length cap).ownBlock := by rw [← hb]; cases A <;> rfl
        have hsp' : Spare (.slice A l.length cap) l := by
          obtain ⟨A', cap', h1, h2⟩ := hsp
          injection h1 with _ _ h1
          subst h1
          exact ⟨A, cap, rfl, by rw [List.length_append] at h2; omega⟩
        have := hqs r u' k' (fun e => hqr e.symm) e' hb' hsp'
        exact ⟨by rw [List.length_append]; omega, this.2⟩
      · exact (old r u' k' g e' (hb.symm.trans hg) hge).elim
    · rw [upd_other _ _ hq] at e
      by_cases hr : r = p
      · subst hr
        rw [upd_same] at e'
        cases e'
        rcases hat with ⟨A, cap, rfl, rfl, hc⟩ | ⟨g, hg, hge⟩
        · have hb' : u.ownBlock = (Value.slice A l.length cap).ownBlock := by rw [hb]; cases A <;> rfl
          have hA : S r = some (.slice A l.length cap, l) := by
            rcases hpc with e' | ⟨e', _⟩
            · exact e'
            · injection e' with e1
              subst e1
              exact absurd hb' hne
          have h1 := h.apart q r u k _ l hql hqr e hA hne hb' hsp
          have hm : m = [] := by
            rcases hc with hc | hc
            · exact absurd ⟨A, cap, rfl, hc⟩ (h1.2 hlp)
            · exact hc
          subst hm
          simpa using h1
        · exact (old q u k g e (hb.trans hg) hge).elim
      · rw [upd_other _ _ hr] at e'
        exact h.apart q r _ _ _ _ hql hqr e e' hne hb hsp

end Go.Proofs.Ytpljmoiemmaecaa
