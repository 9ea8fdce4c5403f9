/- A disk, plain, and how a disk in memory is it. -/
import Derived.Test.YtpljmoiemmaecaaAx
namespace Go.Proofs.Ytpljmoiemmaecaa
open Go.RowKit

structure Ab where
  now : Fl
  safe : Fl
  pend : List AC
  room : Int
  fuse : Int
  steps : Int
  off : Bool

/-- changes that can be done one behind the other, with room -/
def okR (R : Int) : Fl → List AC → Prop
  | _, [] => True
  | L, c :: cs => okA L c ∧ (used (act L c) : Int) ≤ R ∧ okR R (act L c) cs
theorem okR_append (R : Int) : ∀ (L : Fl) (cs ds : List AC), okR R L (cs ++ ds) ↔ okR R L cs ∧ okR R (acts L cs) ds
  | L, [], ds => by simp [okR, acts]
  | L, c :: cs, ds => by
    have := okR_append R (act L c) cs ds
    simp only [List.cons_append, okR, this, and_assoc]
    rfl
theorem take_succ {α : Type} {l : List α} {i : Nat} {a : α} (h : l[i]? = some a) : l.take (i + 1) = l.take i ++ [a] := by
  rw [List.take_add_one, h]; rfl
theorem okR_take (R : Int) {L : Fl} {cs : List AC} (h : okR R L cs) (i : Nat) : okR R L (cs.take i) := by
  rw [← List.take_append_drop i cs, okR_append] at h
  exact h.1
theorem okR_at (R : Int) {L : Fl} {cs : List AC} (h : okR R L cs) {i : Nat} {a : AC} (ha : cs[i]? = some a) : okA (acts L (cs.take i)) a ∧ (used (act (acts L (cs.take i)) a) : Int) ≤ R := by
  have h1 := okR_take R h (i + 1)
  rw [take_succ ha, okR_append] at h1
  exact ⟨h1.2.1, h1.2.2.1⟩
theorem acts_take {L : Fl} {cs : List AC} {i : Nat} {a : AC} (ha : cs[i]? = some a) : acts L (cs.take (i + 1)) = act (acts L (cs.take i)) a := by
  rw [take_succ ha, acts_append]; rfl
theorem used_take (R : Int) {L : Fl} (hL : (used L : Int) ≤ R) {cs : List AC} (h : okR R L cs) : ∀ i, i ≤ cs.length → (used (acts L (cs.take i)) : Int) ≤ R
  | 0, _ => by simpa [acts] using hL
  | i + 1, hi => by
    have hlt : i < cs.length := by omega
    have ha : cs[i]? = some cs[i] := List.getElem?_eq_getElem hlt
    rw [acts_take ha]
    exact (okR_at R h ha).2

theorem okA.ne {M : Fl} {a : AC} (h : okA M a) (e : a.k = 1) : a.s ≠ a.t := by
  rcases h.2.2 with h | ⟨_, h, _⟩ | ⟨h, _⟩
  · omega
  · exact h
  · omega
theorem doC_act {M : Fl} (h : Srt M) {c : Ch} {a : AC} (hk : c.k = a.k) (hs : c.s = a.s) (ht : c.t = a.t) (ho : okA M a) : doC (lk M) c a.data = lk (act M a) := by
  funext z
  rw [lk_act h a ho.ne]
  unfold doC
  rw [hk, hs, ht]
  by_cases h0 : a.k = 0
  · simp only [if_pos h0]
  · by_cases h1 : a.k = 1
    · simp only [if_neg h0, if_pos h1]
      obtain ⟨l, hl⟩ : ∃ l, lk M a.s = some l := by
        rcases ho.2.2 with h | ⟨_, _, h⟩ | ⟨h, _⟩
        · omega
        · exact Option.ne_none_iff_exists'.1 h
        · omega
      rw [hl]
      rfl
    · simp only [if_neg h0, if_neg h1]
theorem doU_act {M : Fl} (h : Srt M) {c : Ch} {a : AC} (hk : c.k = a.k) (hs : c.s = a.s) (ht : c.t = a.t) (ho : okA M a) : doU (lk M) c a.data (used M) = used (act M a) := by
  unfold doU act
  rw [hk, hs, ht]
  by_cases h0 : a.k = 0
  · simp only [if_pos h0]
    have := used_put M a.s ((lk M a.s).getD [] ++ a.data)
    rw [List.length_append] at this
    omega
  · by_cases h1 : a.k = 1
    · simp only [if_neg h0, if_pos h1]
      have hst : a.s ≠ a.t := ho.ne h1
      have e1 := used_put (del M a.s) a.t ((lk M a.s).getD [])
      have e2 := used_del M a.s
      rw [lk_del h, if_neg (fun e => hst e.symm)] at e1
      omega
    · simp only [if_neg h0, if_neg h1]
      have := used_del M a.s
      omega

/-- the changes in memory are those -/
structure Chs (cs : List Ch) (D : Nat → List Int) (pend : List AC) : Prop where
  len : pend.length ≤ cs.length
  eq : ∀ i c a, cs[i]? = some c → pend[i]? = some a → c.k = a.k ∧ c.s = a.s ∧ c.t = a.t ∧ D i = a.data
theorem Chs.get {cs : List Ch} {D : Nat → List Int} {pend : List AC} (h : Chs cs D pend) {i : Nat} {c : Ch} (hlt : i < pend.length) (hc : cs[i]? = some c) : ∃ a, pend[i]? = some a ∧ c.k = a.k ∧ c.s = a.s ∧ c.t = a.t ∧ D i = a.data := by
  exact ⟨_, List.getElem?_eq_getElem hlt, h.eq i c _ hc (List.getElem?_eq_getElem hlt)⟩
theorem runC_acts {cs : List Ch} {D : Nat → List Int} {pend : List AC} (h : Chs cs D pend) {L : Fl} (hL : Srt L) {R : Int} (ho : okR R L pend) : ∀ i, i ≤ pend.length → runC cs D (lk L) (used L) i = (lk (acts L (pend.take i)), (used (acts L (pend.take i)) : Int))
  | 0, _ => by simp [runC, acts]
  | i + 1, hi => by
    have ih := runC_acts h hL ho i (by omega)
    have hlt : i < cs.length := by have := h.len; omega
    have hc : cs[i]? = some cs[i] := List.getElem?_eq_getElem hlt
    obtain ⟨a, ha, e1, e2, e3, e4⟩ := h.get (by omega) hc
    simp only [runC, hc]
    rw [ih, e4, acts_take ha]
    have hoa := (okR_at R ho ha).1
    have hS : Srt (acts L (pend.take i)) := hL.acts _
    simp only
    rw [doC_act hS e1 e2 e3 hoa, doU_act hS e1 e2 e3 hoa]
theorem okC_acts {cs : List Ch} {D : Nat → List Int} {pend : List AC} (h : Chs cs D pend) {L : Fl} (hL : Srt L) {R : Int} (hR : R ≤ 100000000) (hu : (used L : Int) ≤ R) (ho : okR R L pend) {i : Nat} {c : Ch} (hlt : i < pend.length) (hc : cs[i]? = some c) :
    okC (runC cs D (lk L) (used L) i).1 c (D i) ∧ 0 ≤ (runC cs D (lk L) (used L) i).2 ∧ (runC cs D (lk L) (used L) i).2 ≤ 1000000000000 := by
  obtain ⟨a, ha, e1, e2, e3, e4⟩ := h.get hlt hc
  rw [runC_acts h hL ho i (by omega)]
  have hS : Srt (acts L (pend.take i)) := hL.acts _
  obtain ⟨hoa, hua⟩ := okR_at R ho ha
  have hum := used_take R hu ho i (by omega)
  refine ⟨⟨?_, ?_, ?_⟩, by simp, by simp only; omega⟩
  · have := hoa.1; rw [e2]; unfold maxLen; omega
  · have := hoa.2.1; rw [e3]; unfold maxLen; omega
  · rw [e1, e2, e3, e4]
    rcases hoa.2.2 with h0 | ⟨h1, h2, h3⟩ | ⟨h1, h2⟩
    · refine .inl ⟨h0, ?_⟩
      have hh := lk_used (act (acts L (pend.take i)) a) a.s
      rw [lk_act hS a hoa.ne, if_pos h0, if_pos rfl, Option.getD_some, List.length_append] at hh
      simp only
      omega
    · refine .inr (.inl ⟨h1, h2, Option.ne_none_iff_exists'.1 h3, ?_⟩)
      have hh := lk_used (acts L (pend.take i)) a.t
      simp only
      omega
    · refine .inr (.inr ⟨h1, Option.ne_none_iff_exists'.1 h2, ?_⟩)
      have hh := lk_used (acts L (pend.take i)) a.s
      simp only
      omega

end Go.Proofs.Ytpljmoiemmaecaa
