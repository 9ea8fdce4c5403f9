/- The calls of a disk by the plain one: Write, Move, Drop, Read, Sync, Fuse, New. -/
import Derived.Test.YtpljmoiemmaecaaAt
namespace Go.Proofs.Ytpljmoiemmaecaa
open Go.RowKit

theorem readyR_ok {off : Bool} {ns : List ByteArray} (h : readyR off ns = 0) : ns.all Dx.name = true ∧ off = false := by
  unfold readyR at h
  split at h
  · rename_i h1
    split at h
    · cases h
    · rename_i h2
      exact ⟨h1, by simpa using h2⟩
  · cases h

def wrA (A : Ab) (s : ByteArray) (data : List Int) : Ab × Int :=
  if readyR A.off [s] = 0 then (if A.room - used A.now < data.length then (A, 11) else (chgA A ⟨0, s, ⟨#[]⟩, data⟩, stpC A)) else (A, readyR A.off [s])
def mvA (A : Ab) (s t : ByteArray) : Ab × Int :=
  if readyR A.off [s, t] = 0 then (if lk A.now s = none then (A, 4) else if s = t then (stpA A, stpC A) else (chgA A ⟨1, s, t, []⟩, stpC A)) else (A, readyR A.off [s, t])
def drA (A : Ab) (s : ByteArray) : Ab × Int :=
  if readyR A.off [s] = 0 then (if lk A.now s = none then (A, 4) else (chgA A ⟨2, s, ⟨#[]⟩, []⟩, stpC A)) else (A, readyR A.off [s])
def rdA (A : Ab) (s : ByteArray) : List Int × Int :=
  if readyR A.off [s] = 0 then (match lk A.now s with | none => ([], 4) | some l => (l, 0)) else ([], readyR A.off [s])
def syA (A : Ab) : Ab × Int :=
  if A.off then (A, 10) else if A.fuse = 1 then (stpA A, 10) else ({ stpA A with safe := A.now, pend := [] }, 0)
def fuA (A : Ab) (n : Int) : Ab := if A.off then A else { A with fuse := max n 0 }

theorem used_write (L : Fl) (s t : ByteArray) (data : List Int) : used (act L ⟨0, s, t, data⟩) = used L + data.length := by
  have := used_put L s ((lk L s).getD [] ++ data)
  rw [List.length_append] at this
  simp only [act, if_true]
  omega
theorem used_act_le {L : Fl} (hS : Srt L) {c : AC} (ho : okA L c) (hk : c.k ≠ 0) : used (act L c) ≤ used L := by
  have h := doU_act hS (c := ⟨c.k, c.s, c.t, none, 0, 0⟩) rfl rfl rfl ho
  unfold doU at h
  simp only [if_neg hk] at h
  split at h <;> omega

theorem Write_gd {w : World} {d m : Nat} {A : Ab} {σ : Dv} (h : Gd w d m A σ) (s : ByteArray) (A0 : Option Addr) (cap0 : Nat) (data : List Int) (hsm : s.size ≤ maxLen) (hd : Rd w .u8 A0 data) (hA0 : A0 = none → cap0 = 0) (hm : m < 2000) :
    Calls Try.prog 15 #[.pointer (some ⟨d, 0, none⟩), .string s, .slice A0 data.length cap0] w fun e w' => e = .returned (.int .i64 (wrA A s data).2) ∧ ∃ σ', Gd w' d (m + 1) (wrA A s data).1 σ' ∧ Thn w d σ w' σ' := by
  have hun := h.un
  have hro := h.room
  have hrm := h.rm
  have hur := h.unr
  have hcl := h.ns
  have hnn := h.nn
  by_cases hR : readyR A.off [s] = 0
  · obtain ⟨hn, hoff⟩ := readyR_ok hR
    have hn : Dx.name s = true := by simpa using hn
    by_cases hF : A.room - used A.now < data.length
    · simp only [wrA, if_pos hR, if_pos hF]
      refine (Write_full w d 0 σ s A0 data.length cap0 h.inv hn (by rw [h.off, hoff]) (by omega) (by omega) (by omega)).mono ?_
      rintro e w' ⟨rfl, hf⟩
      exact ⟨rfl, σ, (h.keep hf).more, hf.mono (fun _ h => h.elim), fun k hk => .inl hk⟩
    · simp only [wrA, if_pos hR, if_neg hF]
      obtain ⟨v0, hv0⟩ := h.getN s
      have hok : okA A.now ⟨0, s, ⟨#[]⟩, data⟩ := ⟨(name_size hn).2, (by decide : (⟨#[]⟩ : ByteArray).size ≤ 80), .inl rfl⟩
      have hua := used_write A.now s ⟨#[]⟩ data
      have hlk := lk_used A.now s
      refine (Write_do w d 0 σ s A0 cap0 data _ v0 h.inv (Nat.zero_le _) hv0 hn (by rw [h.off, hoff]) hd hA0 (by omega) (by omega) (by omega) (by omega) (stpC A) (stpA A).fuse (stpA A).steps (stpA A).off (h.step hoff (by omega))).mono ?_
      rintro e w' ⟨rfl, A1, cc, b, v', pv', hD, hF2, hft⟩
      refine ⟨rfl, _, h.chg ⟨0, s, ⟨#[]⟩, data⟩ ⟨0, s, ⟨#[]⟩, A1, data.length, cc⟩ hD hok (by rw [hua]; omega) (fun x => ?_) (fun x => ?_) (fun i hi => ?_) ?_ rfl rfl rfl rfl ?_ rfl rfl rfl rfl rfl (Nat.le_refl _) rfl, hF2, hft⟩
      · dsimp only
        rw [upd_other _ _ (by simp), lk_act h.sn _ hok.ne, if_pos rfl]
        by_cases hx : x = s
        · subst hx
          rw [upd_same, if_pos rfl]
          rfl
        · rw [upd_other _ _ (by simpa using hx), if_neg hx]
          exact h.now x
      · dsimp only
        rw [upd_other _ _ (by simp), upd_other _ _ (by simp)]
      · dsimp only
        rw [upd_other _ _ (by simp; omega), upd_other _ _ (by simp)]
      · dsimp only
        rw [upd_same]
        rfl
      · rw [hua]
        show σ.un + (data.length : Int) = _
        rw [hun]
        simp
  · simp only [wrA, if_neg hR]
    refine (Write_bad w d 0 σ s (.slice A0 data.length cap0) _ h.inv hsm (by rw [h.off]) hR).mono ?_
    rintro e w' ⟨rfl, hf⟩
    exact ⟨rfl, σ, (h.keep hf).more, hf.mono (fun _ h => h.elim), fun k hk => .inl hk⟩

/-- a change that lays no bytes -/
theorem Gd.plain {w w' : World} {d m : Nat} {A : Ab} {σ : Dv} (h : Gd w d m A σ) (c : AC) (S' : Fam) (nn' : Nat) (un' : Int) (hk0 : c.k ≠ 0) (hdt : c.data = []) (hok : okA A.now c) (hS : ∀ x, (S' (.now x)).map Prod.snd = lk (act A.now c) x) (hS2 : ∀ x, S' (.safe x) = σ.S (.safe x)) (hS3 : ∀ i, S' (.pend i) = σ.S (.pend i))
    (hun' : un' = used (act A.now c)) (hnn' : nn' ≤ σ.nn + 1) {e : Ending} (hP : PlainPost w d 0 σ c.k c.s c.t S' nn' un' (stpC A) (stpA A).fuse (stpA A).steps (stpA A).off e w') :
    e = .returned (.int .i64 (stpC A)) ∧ ∃ σ', Gd w' d (m + 1) (chgA A c) σ' ∧ Thn w d σ w' σ' := by
  obtain ⟨rfl, pv', hD, hF2, hft⟩ := hP
  have hur := h.unr
  have hle := used_act_le h.sn hok hk0
  refine ⟨rfl, _, h.chg c ⟨c.k, c.s, c.t, none, 0, 0⟩ hD hok (by omega) (fun x => ?_) (fun x => ?_) (fun i hi => ?_) ?_ rfl rfl rfl rfl hun' rfl rfl rfl rfl rfl hnn' rfl, hF2, hft⟩
  · dsimp only
    rw [upd_other _ _ (by simp)]
    exact hS x
  · dsimp only
    rw [upd_other _ _ (by simp)]
    exact hS2 x
  · dsimp only
    rw [upd_other _ _ (by simp; omega)]
    exact hS3 i
  · dsimp only
    rw [upd_same, hdt]
    rfl

theorem Drop_gd {w : World} {d m : Nat} {A : Ab} {σ : Dv} (h : Gd w d m A σ) (s : ByteArray) (hsm : s.size ≤ maxLen) (hm : m < 2000) :
    Calls Try.prog 17 #[.pointer (some ⟨d, 0, none⟩), .string s] w fun e w' => e = .returned (.int .i64 (drA A s).2) ∧ ∃ σ', Gd w' d (m + 1) (drA A s).1 σ' ∧ Thn w d σ w' σ' := by
  have hun := h.un
  have hrm := h.rm
  have hur := h.unr
  have hcl := h.ns
  by_cases hR : readyR A.off [s] = 0
  · obtain ⟨hn, hoff⟩ := readyR_ok hR
    have hn : Dx.name s = true := by simpa using hn
    cases hl : lk A.now s with
    | none =>
      simp only [drA, if_pos hR, if_pos hl]
      refine (Drop_none w d 0 σ s h.inv hsm (by rw [h.off]; exact hR) (h.noneN hl)).mono ?_
      rintro e w' ⟨rfl, hf⟩
      exact ⟨rfl, σ, (h.keep hf).more, hf.mono (fun _ h => h.elim), fun k hk => .inl hk⟩
    | some l =>
      have hl' : ¬ lk A.now s = none := by rw [hl]; simp
      simp only [drA, if_pos hR, if_neg hl']
      obtain ⟨v, hv⟩ := h.someN hl
      have hlk := lk_used A.now s
      rw [hl, Option.getD_some] at hlk
      have hok : okA A.now ⟨2, s, ⟨#[]⟩, []⟩ := ⟨(name_size hn).2, (by decide : (⟨#[]⟩ : ByteArray).size ≤ 80), .inr (.inr ⟨rfl, hl'⟩)⟩
      refine (Drop_do w d 0 σ s v l h.inv (Nat.zero_le _) hv hn (by rw [h.off, hoff]) (by omega) (by omega) (by omega) (stpC A) (stpA A).fuse (stpA A).steps (stpA A).off (h.step hoff (by omega))).mono ?_
      intro e w' hP
      refine h.plain ⟨2, s, ⟨#[]⟩, []⟩ (famDrop σ.S s) σ.nn (σ.un - l.length) (by simp) rfl hok (fun x => ?_) (fun x => upd_other _ _ (by simp)) (fun i => upd_other _ _ (by simp)) ?_ (by omega) hP
      · rw [lk_act h.sn _ hok.ne]
        show (upd σ.S (.now s) none (.now x)).map Prod.snd = if x = s then none else lk A.now x
        by_cases hx : x = s
        · subst hx
          rw [upd_same, if_pos rfl]
          rfl
        · rw [upd_other _ _ (by simpa using hx), if_neg hx]
          exact h.now x
      · have := used_del A.now s
        rw [hl, Option.getD_some] at this
        show _ = ((used (del A.now s) : Nat) : Int)
        omega
  · simp only [drA, if_neg hR]
    refine (Drop_bad w d 0 σ s _ h.inv hsm (by rw [h.off]) hR).mono ?_
    rintro e w' ⟨rfl, hf⟩
    exact ⟨rfl, σ, (h.keep hf).more, hf.mono (fun _ h => h.elim), fun k hk => .inl hk⟩

theorem Move_gd {w : World} {d m : Nat} {A : Ab} {σ : Dv} (h : Gd w d m A σ) (s t : ByteArray) (hsm : s.size ≤ maxLen) (htm : t.size ≤ maxLen) (hm : m < 2000) :
    Calls Try.prog 16 #[.pointer (some ⟨d, 0, none⟩), .string s, .string t] w fun e w' => e = .returned (.int .i64 (mvA A s t).2) ∧ ∃ σ', Gd w' d (m + 1) (mvA A s t).1 σ' ∧ Thn w d σ w' σ' := by
  have hun := h.un
  have hrm := h.rm
  have hur := h.unr
  have hcl := h.ns
  have hnn := h.nn
  by_cases hR : readyR A.off [s, t] = 0
  · obtain ⟨hn, hoff⟩ := readyR_ok hR
    have hn : Dx.name s = true ∧ Dx.name t = true := by simpa using hn
    cases hl : lk A.now s with
    | none =>
      simp only [mvA, if_pos hR, if_pos hl]
      refine (Move_none w d 0 σ s t h.inv hsm htm (by rw [h.off]; exact hR) (h.noneN hl)).mono ?_
      rintro e w' ⟨rfl, hf⟩
      exact ⟨rfl, σ, (h.keep hf).more, hf.mono (fun _ h => h.elim), fun k hk => .inl hk⟩
    | some l =>
      have hl' : ¬ lk A.now s = none := by rw [hl]; simp
      obtain ⟨v, hv⟩ := h.someN hl
      by_cases hst : s = t
      · subst hst
        simp only [mvA, if_pos hR, if_neg hl', if_true]
        refine (Move_self w d 0 σ s v l h.inv hv hn.1 (by rw [h.off, hoff]) (stpC A) (stpA A).fuse (stpA A).steps (stpA A).off (h.step hoff (by omega))).mono ?_
        rintro e w' ⟨rfl, hI, hf⟩
        exact ⟨rfl, _, h.stp hI, hf.mono (fun k hk => .inl (.inl hk)), fun k hk => .inl hk⟩
      · simp only [mvA, if_pos hR, if_neg hl', if_neg hst]
        obtain ⟨v1, hv1⟩ := h.getN t
        have hlt := lk_used A.now t
        have hok : okA A.now ⟨1, s, t, []⟩ := ⟨(name_size hn.1).2, (name_size hn.2).2, .inr (.inl ⟨rfl, hst, hl'⟩)⟩
        refine (Move_do w d 0 σ s t v v1 l _ h.inv (Nat.zero_le _) hv hv1 hst hn.1 hn.2 (by rw [h.off, hoff]) (by omega) (by omega) (by omega) (by omega) (stpC A) (stpA A).fuse (stpA A).steps (stpA A).off (h.step hoff (by omega))).mono ?_
        intro e w' hP
        refine h.plain ⟨1, s, t, []⟩ (famMove σ.S s t) (σ.nn + 1) _ (by simp) rfl hok (fun x => ?_) (fun x => by simp [famMove]) (fun i => by simp [famMove]) ?_ (Nat.le_refl _) hP
        · rw [lk_act h.sn _ hok.ne]
          show (famMove σ.S s t (.now x)).map Prod.snd = if x = s then none else if x = t then some ((lk A.now s).getD []) else lk A.now x
          unfold famMove
          by_cases hx : x = s
          · subst hx
            simp
          · by_cases hy : x = t
            · subst hy
              simp only [if_neg hx, if_true]
              rw [if_neg (by simpa using hx), hl, hv]
              rfl
            · simp only [if_neg hx, if_neg hy]
              rw [if_neg (by simpa using hx), if_neg (by simpa using hy)]
              exact h.now x
        · have hU := doU_act h.sn (c := ⟨1, s, t, none, 0, 0⟩) (a := ⟨1, s, t, []⟩) rfl rfl rfl hok
          simp only [doU] at hU
          rw [hun, ← hU]
          simp
  · simp only [mvA, if_neg hR]
    refine (Move_bad w d 0 σ s t _ h.inv hsm htm (by rw [h.off]) hR).mono ?_
    rintro e w' ⟨rfl, hf⟩
    exact ⟨rfl, σ, (h.keep hf).more, hf.mono (fun _ h => h.elim), fun k hk => .inl hk⟩

theorem Read_gd {w : World} {d m : Nat} {A : Ab} {σ : Dv} (h : Gd w d m A σ) (s : ByteArray) (hsm : s.size ≤ maxLen) :
    Calls Try.prog 19 #[.pointer (some ⟨d, 0, none⟩), .string s] w fun e w' => ∃ u, e = .returned (.tuple #[u, .int .i64 (rdA A s).2]) ∧ RdB w' u (rdA A s).1 ∧ (∀ g, u.ownBlock = some g → w.heap.size ≤ g) ∧ Fr (fun _ => False) w w' := by
  have hrm := h.rm
  have hur := h.unr
  by_cases hR : readyR A.off [s] = 0
  · obtain ⟨hn, hoff⟩ := readyR_ok hR
    have hn : Dx.name s = true := by simpa using hn
    cases hl : lk A.now s with
    | none =>
      simp only [rdA, if_pos hR, hl]
      refine (Read_none w d 0 σ s h.inv hsm (by rw [h.off]; exact hR) (h.noneN hl)).mono ?_
      rintro e w' ⟨rfl, hf⟩
      exact ⟨_, rfl, RdB.nil, fun g e => (by cases e), hf⟩
    | some l =>
      simp only [rdA, if_pos hR, hl]
      obtain ⟨v, hv⟩ := h.someN hl
      have hlk := lk_used A.now s
      rw [hl, Option.getD_some] at hlk
      exact Read_do w d 0 σ s v l h.inv hv hn (by rw [h.off, hoff]) (by omega)
  · simp only [rdA, if_neg hR]
    refine (Read_bad w d 0 σ s _ h.inv hsm (by rw [h.off]) hR).mono ?_
    rintro e w' ⟨rfl, hf⟩
    exact ⟨_, rfl, RdB.nil, fun g e => (by cases e), hf⟩

end Go.Proofs.Ytpljmoiemmaecaa
