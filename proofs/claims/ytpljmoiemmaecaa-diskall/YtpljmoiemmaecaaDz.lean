/- What Crash does to a disk in memory: a change cut, and what is safe twinned. -/
import Derived.Test.YtpljmoiemmaecaaDy
namespace Go.Proofs.Ytpljmoiemmaecaa
open Go.RowKit

theorem RdB.cut {w : World} {v : Value} {l : List Int} (h : RdB w v l) : RdB w (cutS v) l ∧ (cutS v).ownBlock = v.ownBlock ∧ ¬ Spare (cutS v) l := by
  rcases h with ⟨rfl, rfl⟩ | ⟨g, cap, cur, rfl, h1, h2, h3, h4, h5⟩
  · exact ⟨RdB.nil, rfl, nil_spare⟩
  · refine ⟨.inr ⟨g, l.length, cur, rfl, h1, Nat.le_refl _, Nat.le_trans h2 h3, Nat.le_trans h2 h4, h5⟩, rfl, ?_⟩
    rintro ⟨A, c, e, hc⟩
    simp only [cutS] at e
    injection e with _ _ e
    omega
theorem RdB.take {w : World} {A : Option Addr} {n c : Nat} {l : List Int} (h : RdB w (.slice A n c) l) (m : Nat) (hm : m ≤ l.length) : RdB w (.slice A m c) (l.take m) := by
  rcases h with ⟨h, rfl⟩ | ⟨g, cap, cur, e, h1, h2, h3, h4, h5⟩
  · unfold nilS at h
    injection h with e1 e2 e3
    subst e1
    subst e3
    obtain rfl : m = 0 := by simpa using hm
    exact .inl ⟨rfl, rfl⟩
  · injection e with e1 e2 e3
    subst e1
    subst e3
    have hl : (l.take m).length = m := by rw [List.length_take]; omega
    refine .inr ⟨g, c, cur, by rw [hl], h1, by omega, h3, h4, ?_⟩
    rw [hl, List.map_take, ← h5, List.take_take, Nat.min_eq_left hm]

/-- what is safe, twice -/
def famTwin (S : Fam) : Fam := fun q => match q with
  | .now x => (S (.safe x)).map (fun y => (cutS y.1, y.2))
  | .safe x => S (.safe x)
  | .pend i => S (.pend i)
theorem famTwin_now {S : Fam} {x : ByteArray} {v : Value} {l : List Int} (h : famTwin S (.now x) = some (v, l)) : ∃ v0, S (.safe x) = some (v0, l) ∧ v = cutS v0 := by
  have h : (S (.safe x)).map (fun y => (cutS y.1, y.2)) = some (v, l) := h
  cases hS : S (.safe x) with
  | none => rw [hS] at h; cases h
  | some y => rw [hS] at h; obtain ⟨a, b⟩ := y; cases h; exact ⟨a, rfl, rfl⟩
theorem famTwin_ok {w : World} {S : Fam} (h : FamOk w S) : FamOk w (famTwin S) := by
  constructor
  · intro p v l e
    cases p with
    | now x =>
      obtain ⟨v0, e0, rfl⟩ := famTwin_now e
      exact (h.rd _ _ _ e0).cut.1
    | safe x => exact h.rd _ _ _ e
    | pend i => exact h.rd _ _ _ e
  · intro p q v l v' l' hp hpq e e' hne hb hsp
    cases p with
    | now x =>
      obtain ⟨v0, e0, rfl⟩ := famTwin_now e
      exact absurd hsp (h.rd _ _ _ e0).cut.2.2
    | pend i => cases hp
    | safe x =>
      have e : S (.safe x) = some (v, l) := e
      cases q with
      | safe y => exact h.apart (.safe x) (.safe y) v l v' l' hp hpq e e' hne hb hsp
      | pend j => exact h.apart (.safe x) (.pend j) v l v' l' hp hpq e e' hne hb hsp
      | now y =>
        obtain ⟨v0, e0, rfl⟩ := famTwin_now e'
        have hc := (h.rd _ _ _ e0).cut
        refine ⟨?_, fun _ => hc.2.2⟩
        by_cases hxy : x = y
        · subst hxy
          rw [e] at e0
          cases e0
          exact Nat.le_refl _
        · exact (h.apart (.safe x) (.safe y) v l v0 l' hp (by simpa using hxy) e e0 hne (hb.trans hc.2.1) hsp).1

theorem DInv.twin {w w1 w' : World} {d B b : Nat} {σ : Dv} (h : DInv w d B σ) (hge : w.heap.size ≤ b) (hM : MapV w1 b σ.ns (fun x => (vsafe σ.S x).map cutS)) (hf : Fr (fun _ => False) w w1)
    (hC : Cel w' d 61 (dc (some b) σ.us σ.ms σ.us σ.pv σ.room 0 σ.steps false)) (hf' : Fr (fun k => k = d) w1 w') :
    DInv w' d B { σ with S := famTwin σ.S, mn := some b, nn := σ.ns, un := σ.us, fuse := 0, off := false } := by
  have h1 := h.keep hf
  have hfam := famTwin_ok h1.fam
  have hdb : d ≠ b := by have := h.cel.lt; omega
  refine ⟨hC, .inr ⟨b, rfl, ?_⟩, ?_, hfam.keep (fun p u k e => (hfam.rd p u k e).fr hf' (fun g eg hk => h1.cel.ne_rd (hfam.rd p u k e) (by decide) (by rw [eg, hk]))), ?_, own_fr h1.row hf' (fun g e hk => row_ne h1.row h1.cel (by decide) (by rw [e, hk])), h.pend, h.pend0⟩
  · have hV : vnow (famTwin σ.S) = fun x => (vsafe σ.S x).map cutS := by
      funext x
      show ((σ.S (.safe x)).map (fun y => (cutS y.1, y.2))).map Prod.fst = ((σ.S (.safe x)).map Prod.fst).map cutS
      cases σ.S (.safe x) <;> rfl
    show MapV w' b σ.ns (vnow (famTwin σ.S))
    rw [hV]
    exact hM.fr hf' (fun e => hdb e.symm)
  · exact h1.fs.fr hf' (fun b' e hk => h1.cel.ne_map (h1.fs.map e) hk.symm)
  · rintro b' e e'
    cases e
    have := h.fs.lt e'
    omega

theorem flat_set : ∀ (cs : List Ch) (i : Nat) (c : Ch) (m : Nat), cs[i]? = some c → (cs.set i { c with n := m }).flatMap Ch.cells = (cs.flatMap Ch.cells).set (i * 4 + 3) (.slice c.A m c.c)
  | [], i, c, m, h => by simp at h
  | c0 :: cs, 0, c, m, h => by
    simp at h
    subst h
    simp [Ch.cells, chgCells]
  | c0 :: cs, i + 1, c, m, h => by
    simp at h
    have := flat_set cs i c m h
    simp only [List.set_cons_succ, List.flatMap_cons, this]
    have h4 : c0.cells.length = 4 := rfl
    rw [List.set_append_right _ _ (by omega), h4]
    congr 2
    omega

theorem DInv.cut {w : World} {d B p cap i m : Nat} {σ : Dv} {c : Ch} {data : List Int} (h : DInv w d B σ) (hpv : σ.pv = .slice (some ⟨p, 0, none⟩) σ.cs.length cap) (hc : σ.cs[i]? = some c) (hi : σ.S (.pend i) = some (.slice c.A c.n c.c, data)) (hm : m ≤ data.length) :
    DInv (w.setCell ⟨p, i * 4 + 3, none⟩ (.slice c.A m c.c)) d B { σ with S := upd σ.S (.pend i) (some (.slice c.A m c.c, data.take m)), cs := σ.cs.set i { c with n := m } } := by
  have hf : Fr (fun k => k = p) w (w.setCell ⟨p, i * 4 + 3, none⟩ (.slice c.A m c.c)) := Fr.set w p _ _
  have hob : σ.pv.ownBlock = some p := by rw [hpv]; rfl
  have hdp : d ≠ p := fun e => row_ne h.row h.cel (by decide) (by rw [hob, e])
  have hup : ∀ u k, RdB w u k → RdB (w.setCell ⟨p, i * 4 + 3, none⟩ (.slice c.A m c.c)) u k := fun u k hu => hu.fr hf (fun g eg hk => row_ne_rd h.row hu hob (by rw [eg, hk]))
  have hlt : i < σ.cs.length := (List.getElem?_eq_some_iff.1 hc).1
  refine ⟨h.cel.of (hf.block d h.cel.lt hdp), ?_, ?_, ?_, h.mm, ?_, ?_, ?_⟩
  · have hV : vnow (upd σ.S (.pend i) (some (.slice c.A m c.c, data.take m))) = vnow σ.S := by
      funext x
      unfold vnow
      rw [upd_other _ _ (by simp)]
    show Files _ σ.mn σ.nn (vnow (upd σ.S (.pend i) (some (.slice c.A m c.c, data.take m))))
    rw [hV]
    exact h.fn.fr hf (fun b e hk => row_ne_map h.row (h.fn.map e) (by rw [hob, hk]))
  · have hV : vsafe (upd σ.S (.pend i) (some (.slice c.A m c.c, data.take m))) = vsafe σ.S := by
      funext x
      unfold vsafe
      rw [upd_other _ _ (by simp)]
    show Files _ σ.ms σ.ns (vsafe (upd σ.S (.pend i) (some (.slice c.A m c.c, data.take m))))
    rw [hV]
    exact h.fs.fr hf (fun b e hk => row_ne_map h.row (h.fs.map e) (by rw [hob, hk]))
  · constructor
    · intro q u k e
      by_cases hq : q = .pend i
      · subst hq
        have e : upd σ.S (.pend i) (some (.slice c.A m c.c, data.take m)) (.pend i) = some (u, k) := e
        rw [upd_same] at e
        cases e
        exact hup _ _ ((h.fam.rd _ _ _ hi).take m hm)
      · have e : upd σ.S (.pend i) (some (.slice c.A m c.c, data.take m)) q = some (u, k) := e
        rw [upd_other _ _ hq] at e
        exact hup _ _ (h.fam.rd _ _ _ e)
    · intro q r u k u' k' hql hqr e e' hne hb hsp
      have e : upd σ.S (.pend i) (some (.slice c.A m c.c, data.take m)) q = some (u, k) := e
      have e' : upd σ.S (.pend i) (some (.slice c.A m c.c, data.take m)) r = some (u', k') := e'
      rw [upd_other _ _ (by rintro rfl; cases hql)] at e
      by_cases hr : r = .pend i
      · subst hr
        rw [upd_same] at e'
        cases e'
        have := h.fam.apart q (.pend i) u k _ data hql hqr e hi hne (by rw [hb]; cases c.A <;> rfl) hsp
        exact ⟨by rw [List.length_take]; omega, fun hl => by cases hl⟩
      · rw [upd_other _ _ hr] at e'
        exact h.fam.apart q r u k u' k' hql hqr e e' hne hb hsp
  · have hr := h.row
    rw [hpv] at hr
    have := hr.stored (i * 4 + 3) (.slice c.A m c.c)
    show World.ownsRow _ B 69 4 σ.pv (σ.cs.set i { c with n := m }).length ((σ.cs.set i { c with n := m }).flatMap Ch.cells)
    rw [flat_set _ _ _ _ hc, List.length_set, hpv]
    exact this.1
  · intro j c' hj
    have hj : (σ.cs.set i { c with n := m })[j]? = some c' := hj
    by_cases hij : i = j
    · subst hij
      rw [List.getElem?_set_self hlt] at hj
      cases hj
      exact ⟨_, upd_same _ _ _, by rw [List.length_take]; show m = _; omega⟩
    · rw [List.getElem?_set_ne hij] at hj
      obtain ⟨l', e1, e2⟩ := h.pend j c' hj
      exact ⟨l', by show upd σ.S (.pend i) (some (.slice c.A m c.c, data.take m)) (.pend j) = _; rw [upd_other _ _ (by simp; omega)]; exact e1, e2⟩
  · intro j hj
    have hj : (σ.cs.set i { c with n := m }).length ≤ j := hj
    rw [List.length_set] at hj
    show upd σ.S (.pend i) (some (.slice c.A m c.c, data.take m)) (.pend j) = _
    rw [upd_other _ _ (by simp; omega)]
    exact h.pend0 j hj

end Go.Proofs.Ytpljmoiemmaecaa
