/- The calls of a disk by the plain one: Write, Move, Drop, Read, Sync, Fuse, New. The calls of a disk by the plain one: Sync, Fuse, New, Crash, and what is asked of it. A disk that was made behind a world of old: its calls leave that one alone. The document's example of layer 4. The last step of a law's row: it returns true, and all that lay there lies as it lay. A slice of integers that comes in, opened. A slice of six-celled structs that comes in (a number, two texts, bytes, two numbers), opened. -/
import Derived.Test.YtbdmlenapccdnaaJoin4
import Derived.Lib.SlBytesConst
import Derived.ProofKit
import Derived.Below
import Derived.Carry
import Derived.ChangeSame
import Derived.OpenShut
import Derived.Test.YtbdmlenapccdnaaJoin0
import Derived.Deep.Slices
namespace Go.Proofs.Ytbdmlenapccdnaa
open Go.RowKit

theorem readyR_ok {off : Bool} {ns : List ByteArray} (h : readyR off ns = 0) : ns.all Dx.name = true ∧ off = false := by
  unfold readyR at h
  split at h
  · rename_i h1
    split at h
    · cases h
    · rename_i h2
      exact ⟨h1, by simpa using h2⟩
  · cases h

def wrA (A : Ab) (s : ByteArray) (data : List Int) : Ab × Int :=
  if readyR A.off [s] = 0 then (if A.room - used A.now < data.length then (A, 11) else (chgA A ⟨0, s, ⟨#[]⟩, data⟩, stpC A)) else (A, readyR A.off [s])
def mvA (A : Ab) (s t : ByteArray) : Ab × Int :=
  if readyR A.off [s, t] = 0 then (if lk A.now s = none then (A, 4) else if s = t then (stpA A, stpC A) else (chgA A ⟨1, s, t, []⟩, stpC A)) else (A, readyR A.off [s, t])
def drA (A : Ab) (s : ByteArray) : Ab × Int :=
  if readyR A.off [s] = 0 then (if lk A.now s = none then (A, 4) else (chgA A ⟨2, s, ⟨#[]⟩, []⟩, stpC A)) else (A, readyR A.off [s])
def rdA (A : Ab) (s : ByteArray) : List Int × Int :=
  if readyR A.off [s] = 0 then (match lk A.now s with | none => ([], 4) | some l => (l, 0)) else ([], readyR A.off [s])
def syA (A : Ab) : Ab × Int :=
  if A.off then (A, 10) else if A.fuse = 1 then (stpA A, 10) else ({ stpA A with safe := A.now, pend := [] }, 0)
def fuA (A : Ab) (n : Int) : Ab := if A.off then A else { A with fuse := max n 0 }

theorem used_write (L : Fl) (s t : ByteArray) (data : List Int) : used (act L ⟨0, s, t, data⟩) = used L + data.length := by
  have := used_put L s ((lk L s).getD [] ++ data)
  rw [List.length_append] at this
  simp only [act, if_true]
  omega
theorem used_act_le {L : Fl} (hS : Srt L) {c : AC} (ho : okA L c) (hk : c.k ≠ 0) : used (act L c) ≤ used L := by
  have h := doU_act hS (c := ⟨c.k, c.s, c.t, none, 0, 0⟩) rfl rfl rfl ho
  unfold doU at h
  simp only [if_neg hk] at h
  split at h <;> omega

theorem Write_gd {w : World} {d m : Nat} {A : Ab} {σ : Dv} (h : Gd w d m A σ) (s : ByteArray) (A0 : Option Addr) (cap0 : Nat) (data : List Int) (hsm : s.size ≤ maxLen) (hd : Rd w .u8 A0 data) (hA0 : A0 = none → cap0 = 0) (hm : m < 2000) :
    Calls Try.prog 13 #[.pointer (some ⟨d, 0, none⟩), .string s, .slice A0 data.length cap0] w fun e w' => e = .returned (.int .i64 (wrA A s data).2) ∧ ∃ σ', Gd w' d (m + 1) (wrA A s data).1 σ' ∧ Thn w d σ w' σ' := by
  have hun := h.un
  have hro := h.room
  have hrm := h.rm
  have hur := h.unr
  have hcl := h.ns
  have hnn := h.nn
  by_cases hR : readyR A.off [s] = 0
  · obtain ⟨hn, hoff⟩ := readyR_ok hR
    have hn : Dx.name s = true := by simpa using hn
    by_cases hF : A.room - used A.now < data.length
    · simp only [wrA, if_pos hR, if_pos hF]
      refine (Write_full w d 0 σ s A0 data.length cap0 h.inv hn (by rw [h.off, hoff]) (by omega) (by omega) (by omega)).mono ?_
      rintro e w' ⟨rfl, hf⟩
      exact ⟨rfl, σ, (h.keep hf).more, hf.mono (fun _ h => h.elim), fun k hk => .inl hk⟩
    · simp only [wrA, if_pos hR, if_neg hF]
      obtain ⟨v0, hv0⟩ := h.getN s
      have hok : okA A.now ⟨0, s, ⟨#[]⟩, data⟩ := ⟨(name_size hn).2, (by decide : (⟨#[]⟩ : ByteArray).size ≤ 80), .inl rfl⟩
      have hua := used_write A.now s ⟨#[]⟩ data
      have hlk := lk_used A.now s
      refine (Write_do w d 0 σ s A0 cap0 data _ v0 h.inv (Nat.zero_le _) hv0 hn (by rw [h.off, hoff]) hd hA0 (by omega) (by omega) (by omega) (by omega) (stpC A) (stpA A).fuse (stpA A).steps (stpA A).off (h.step hoff (by omega))).mono ?_
      rintro e w' ⟨rfl, A1, cc, b, v', pv', hD, hF2, hft⟩
      refine ⟨rfl, _, h.chg ⟨0, s, ⟨#[]⟩, data⟩ ⟨0, s, ⟨#[]⟩, A1, data.length, cc⟩ hD hok (by rw [hua]; omega) (fun x => ?_) (fun x => ?_) (fun i hi => ?_) ?_ rfl rfl rfl rfl ?_ rfl rfl rfl rfl rfl (Nat.le_refl _) rfl, hF2, hft⟩
      · dsimp only
        rw [upd_other _ _ (by simp), lk_act h.sn _ hok.ne, if_pos rfl]
        by_cases hx : x = s
        · subst hx
          rw [upd_same, if_pos rfl]
          rfl
        · rw [upd_other _ _ (by simpa using hx), if_neg hx]
          exact h.now x
      · dsimp only
        rw [upd_other _ _ (by simp), upd_other _ _ (by simp)]
      · dsimp only
        rw [upd_other _ _ (by simp; omega), upd_other _ _ (by simp)]
      · dsimp only
        rw [upd_same]
        rfl
      · rw [hua]
        show σ.un + (data.length : Int) = _
        rw [hun]
        simp
  · simp only [wrA, if_neg hR]
    refine (Write_bad w d 0 σ s (.slice A0 data.length cap0) _ h.inv hsm (by rw [h.off]) hR).mono ?_
    rintro e w' ⟨rfl, hf⟩
    exact ⟨rfl, σ, (h.keep hf).more, hf.mono (fun _ h => h.elim), fun k hk => .inl hk⟩

/-- a change that lays no bytes -/
theorem Gd.plain {w w' : World} {d m : Nat} {A : Ab} {σ : Dv} (h : Gd w d m A σ) (c : AC) (S' : Fam) (nn' : Nat) (un' : Int) (hk0 : c.k ≠ 0) (hdt : c.data = []) (hok : okA A.now c) (hS : ∀ x, (S' (.now x)).map Prod.snd = lk (act A.now c) x) (hS2 : ∀ x, S' (.safe x) = σ.S (.safe x)) (hS3 : ∀ i, S' (.pend i) = σ.S (.pend i))
    (hun' : un' = used (act A.now c)) (hnn' : nn' ≤ σ.nn + 1) {e : Ending} (hP : PlainPost w d 0 σ c.k c.s c.t S' nn' un' (stpC A) (stpA A).fuse (stpA A).steps (stpA A).off e w') :
    e = .returned (.int .i64 (stpC A)) ∧ ∃ σ', Gd w' d (m + 1) (chgA A c) σ' ∧ Thn w d σ w' σ' := by
  obtain ⟨rfl, pv', hD, hF2, hft⟩ := hP
  have hur := h.unr
  have hle := used_act_le h.sn hok hk0
  refine ⟨rfl, _, h.chg c ⟨c.k, c.s, c.t, none, 0, 0⟩ hD hok (by omega) (fun x => ?_) (fun x => ?_) (fun i hi => ?_) ?_ rfl rfl rfl rfl hun' rfl rfl rfl rfl rfl hnn' rfl, hF2, hft⟩
  · dsimp only
    rw [upd_other _ _ (by simp)]
    exact hS x
  · dsimp only
    rw [upd_other _ _ (by simp)]
    exact hS2 x
  · dsimp only
    rw [upd_other _ _ (by simp; omega)]
    exact hS3 i
  · dsimp only
    rw [upd_same, hdt]
    rfl

theorem Drop_gd {w : World} {d m : Nat} {A : Ab} {σ : Dv} (h : Gd w d m A σ) (s : ByteArray) (hsm : s.size ≤ maxLen) (hm : m < 2000) :
    Calls Try.prog 15 #[.pointer (some ⟨d, 0, none⟩), .string s] w fun e w' => e = .returned (.int .i64 (drA A s).2) ∧ ∃ σ', Gd w' d (m + 1) (drA A s).1 σ' ∧ Thn w d σ w' σ' := by
  have hun := h.un
  have hrm := h.rm
  have hur := h.unr
  have hcl := h.ns
  by_cases hR : readyR A.off [s] = 0
  · obtain ⟨hn, hoff⟩ := readyR_ok hR
    have hn : Dx.name s = true := by simpa using hn
    cases hl : lk A.now s with
    | none =>
      simp only [drA, if_pos hR, if_pos hl]
      refine (Drop_none w d 0 σ s h.inv hsm (by rw [h.off]; exact hR) (h.noneN hl)).mono ?_
      rintro e w' ⟨rfl, hf⟩
      exact ⟨rfl, σ, (h.keep hf).more, hf.mono (fun _ h => h.elim), fun k hk => .inl hk⟩
    | some l =>
      have hl' : ¬ lk A.now s = none := by rw [hl]; simp
      simp only [drA, if_pos hR, if_neg hl']
      obtain ⟨v, hv⟩ := h.someN hl
      have hlk := lk_used A.now s
      rw [hl, Option.getD_some] at hlk
      have hok : okA A.now ⟨2, s, ⟨#[]⟩, []⟩ := ⟨(name_size hn).2, (by decide : (⟨#[]⟩ : ByteArray).size ≤ 80), .inr (.inr ⟨rfl, hl'⟩)⟩
      refine (Drop_do w d 0 σ s v l h.inv (Nat.zero_le _) hv hn (by rw [h.off, hoff]) (by omega) (by omega) (by omega) (stpC A) (stpA A).fuse (stpA A).steps (stpA A).off (h.step hoff (by omega))).mono ?_
      intro e w' hP
      refine h.plain ⟨2, s, ⟨#[]⟩, []⟩ (famDrop σ.S s) σ.nn (σ.un - l.length) (by simp) rfl hok (fun x => ?_) (fun x => upd_other _ _ (by simp)) (fun i => upd_other _ _ (by simp)) ?_ (by omega) hP
      · rw [lk_act h.sn _ hok.ne]
        show (upd σ.S (.now s) none (.now x)).map Prod.snd = if x = s then none else lk A.now x
        by_cases hx : x = s
        · subst hx
          rw [upd_same, if_pos rfl]
          rfl
        · rw [upd_other _ _ (by simpa using hx), if_neg hx]
          exact h.now x
      · have := used_del A.now s
        rw [hl, Option.getD_some] at this
        show _ = ((used (del A.now s) : Nat) : Int)
        omega
  · simp only [drA, if_neg hR]
    refine (Drop_bad w d 0 σ s _ h.inv hsm (by rw [h.off]) hR).mono ?_
    rintro e w' ⟨rfl, hf⟩
    exact ⟨rfl, σ, (h.keep hf).more, hf.mono (fun _ h => h.elim), fun k hk => .inl hk⟩

theorem Move_gd {w : World} {d m : Nat} {A : Ab} {σ : Dv} (h : Gd w d m A σ) (s t : ByteArray) (hsm : s.size ≤ maxLen) (htm : t.size ≤ maxLen) (hm : m < 2000) :
    Calls Try.prog 14 #[.pointer (some ⟨d, 0, none⟩), .string s, .string t] w fun e w' => e = .returned (.int .i64 (mvA A s t).2) ∧ ∃ σ', Gd w' d (m + 1) (mvA A s t).1 σ' ∧ Thn w d σ w' σ' := by
  have hun := h.un
  have hrm := h.rm
  have hur := h.unr
  have hcl := h.ns
  have hnn := h.nn
  by_cases hR : readyR A.off [s, t] = 0
  · obtain ⟨hn, hoff⟩ := readyR_ok hR
    have hn : Dx.name s = true ∧ Dx.name t = true := by simpa using hn
    cases hl : lk A.now s with
    | none =>
      simp only [mvA, if_pos hR, if_pos hl]
      refine (Move_none w d 0 σ s t h.inv hsm htm (by rw [h.off]; exact hR) (h.noneN hl)).mono ?_
      rintro e w' ⟨rfl, hf⟩
      exact ⟨rfl, σ, (h.keep hf).more, hf.mono (fun _ h => h.elim), fun k hk => .inl hk⟩
    | some l =>
      have hl' : ¬ lk A.now s = none := by rw [hl]; simp
      obtain ⟨v, hv⟩ := h.someN hl
      by_cases hst : s = t
      · subst hst
        simp only [mvA, if_pos hR, if_neg hl', if_true]
        refine (Move_self w d 0 σ s v l h.inv hv hn.1 (by rw [h.off, hoff]) (stpC A) (stpA A).fuse (stpA A).steps (stpA A).off (h.step hoff (by omega))).mono ?_
        rintro e w' ⟨rfl, hI, hf⟩
        exact ⟨rfl, _, h.stp hI, hf.mono (fun k hk => .inl (.inl hk)), fun k hk => .inl hk⟩
      · simp only [mvA, if_pos hR, if_neg hl', if_neg hst]
        obtain ⟨v1, hv1⟩ := h.getN t
        have hlt := lk_used A.now t
        have hok : okA A.now ⟨1, s, t, []⟩ := ⟨(name_size hn.1).2, (name_size hn.2).2, .inr (.inl ⟨rfl, hst, hl'⟩)⟩
        refine (Move_do w d 0 σ s t v v1 l _ h.inv (Nat.zero_le _) hv hv1 hst hn.1 hn.2 (by rw [h.off, hoff]) (by omega) (by omega) (by omega) (by omega) (stpC A) (stpA A).fuse (stpA A).steps (stpA A).off (h.step hoff (by omega))).mono ?_
        intro e w' hP
        refine h.plain ⟨1, s, t, []⟩ (famMove σ.S s t) (σ.nn + 1) _ (by simp) rfl hok (fun x => ?_) (fun x => by simp [famMove]) (fun i => by simp [famMove]) ?_ (Nat.le_refl _) hP
        · rw [lk_act h.sn _ hok.ne]
          show (famMove σ.S s t (.now x)).map Prod.snd = if x = s then none else if x = t then some ((lk A.now s).getD []) else lk A.now x
          unfold famMove
          by_cases hx : x = s
          · subst hx
            simp
          · by_cases hy : x = t
            · subst hy
              simp only [if_neg hx, if_true]
              rw [if_neg (by simpa using hx), hl, hv]
              rfl
            · simp only [if_neg hx, if_neg hy]
              rw [if_neg (by simpa using hx), if_neg (by simpa using hy)]
              exact h.now x
        · have hU := doU_act h.sn (c := ⟨1, s, t, none, 0, 0⟩) (a := ⟨1, s, t, []⟩) rfl rfl rfl hok
          simp only [doU] at hU
          rw [hun, ← hU]
          simp
  · simp only [mvA, if_neg hR]
    refine (Move_bad w d 0 σ s t _ h.inv hsm htm (by rw [h.off]) hR).mono ?_
    rintro e w' ⟨rfl, hf⟩
    exact ⟨rfl, σ, (h.keep hf).more, hf.mono (fun _ h => h.elim), fun k hk => .inl hk⟩

theorem Read_gd {w : World} {d m : Nat} {A : Ab} {σ : Dv} (h : Gd w d m A σ) (s : ByteArray) (hsm : s.size ≤ maxLen) :
    Calls Try.prog 17 #[.pointer (some ⟨d, 0, none⟩), .string s] w fun e w' => ∃ u, e = .returned (.tuple #[u, .int .i64 (rdA A s).2]) ∧ RdB w' u (rdA A s).1 ∧ (∀ g, u.ownBlock = some g → w.heap.size ≤ g) ∧ Fr (fun _ => False) w w' := by
  have hrm := h.rm
  have hur := h.unr
  by_cases hR : readyR A.off [s] = 0
  · obtain ⟨hn, hoff⟩ := readyR_ok hR
    have hn : Dx.name s = true := by simpa using hn
    cases hl : lk A.now s with
    | none =>
      simp only [rdA, if_pos hR, hl]
      refine (Read_none w d 0 σ s h.inv hsm (by rw [h.off]; exact hR) (h.noneN hl)).mono ?_
      rintro e w' ⟨rfl, hf⟩
      exact ⟨_, rfl, RdB.nil, fun g e => (by cases e), hf⟩
    | some l =>
      simp only [rdA, if_pos hR, hl]
      obtain ⟨v, hv⟩ := h.someN hl
      have hlk := lk_used A.now s
      rw [hl, Option.getD_some] at hlk
      exact Read_do w d 0 σ s v l h.inv hv hn (by rw [h.off, hoff]) (by omega)
  · simp only [rdA, if_neg hR]
    refine (Read_bad w d 0 σ s _ h.inv hsm (by rw [h.off]) hR).mono ?_
    rintro e w' ⟨rfl, hf⟩
    exact ⟨_, rfl, RdB.nil, fun g e => (by cases e), hf⟩

end Go.Proofs.Ytbdmlenapccdnaa
namespace Go.Proofs.Ytbdmlenapccdnaa
open Go.RowKit

def newA (room : Int) : Ab := ⟨[], [], [], min (max room 0) 16777216, 0, 0, false⟩
theorem New_gd (w : World) (room : Int) : Calls Try.prog 8 #[.int .i64 room] w fun e w' => e = .returned (.pointer (some ⟨w.heap.size, 0, none⟩)) ∧ ∃ σ, Gd w' w.heap.size 0 (newA room) σ ∧ Fr (fun _ => False) w w' ∧ ∀ k, foot w.heap.size σ k → w.heap.size ≤ k := by
  refine (New_any room w).mono ?_
  rintro e w' ⟨rfl, hC, hf⟩
  refine ⟨rfl, fresh (min (max room 0) 16777216), ⟨DInv_fresh hC, fun _ => rfl, rfl, rfl, ⟨Nat.le_refl _, fun i c a hc => ?_⟩, rfl, rfl, rfl, rfl, rfl, rfl, List.Pairwise.nil, trivial, rfl, ?_, ?_, Nat.le_refl _, Nat.le_refl _, ?_, ?_⟩, hf, ?_⟩
  · simp [fresh] at hc
  · simp only [newA, used]; omega
  · simp only [newA]; omega
  · simp only [newA]; omega
  · simp only [newA]; omega
  · rintro k (hk | hk | hk | hk | ⟨p, v, l, e, hk⟩)
    · omega
    · cases hk
    · cases hk
    · cases hk
    · cases e

theorem Fuse_gd {w : World} {d m : Nat} {A : Ab} {σ : Dv} (h : Gd w d m A σ) (n : Int) (hn : n ≤ 9223372036854775807) :
    Calls Try.prog 19 #[.pointer (some ⟨d, 0, none⟩), .int .i64 n] w fun e w' => e = .returned (.tuple #[]) ∧ ∃ σ', Gd w' d m (fuA A n) σ' ∧ Thn w d σ w' σ' := by
  cases ho : A.off with
  | true =>
    have e1 : fuA A n = A := by unfold fuA; rw [if_pos ho]
    rw [e1]
    refine (Fuse_off w d 0 σ n h.inv (by rw [h.off, ho])).mono ?_
    rintro e w' ⟨rfl, rfl⟩
    exact ⟨rfl, σ, h, Thn.refl _ _ _⟩
  | false =>
    have e1 : fuA A n = { A with fuse := max n 0 } := by unfold fuA; rw [if_neg (by rw [ho]; simp)]
    rw [e1]
    refine (Fuse_on w d 0 σ n h.inv (by rw [h.off, ho])).mono ?_
    rintro e w' ⟨rfl, hI, hf⟩
    refine ⟨rfl, _, ⟨hI, h.now, h.safe, h.cl, h.chs, h.un, h.us, h.room, rfl, h.steps, h.off, h.ss, h.ok, h.run, h.usf, h.rm, h.nn, h.ns, ?_, h.st⟩, hf.mono (fun k hk => .inl (.inl hk)), fun k hk => .inl hk⟩
    show 0 ≤ max n 0 ∧ max n 0 ≤ _
    omega

theorem Used_gd {w : World} {d m : Nat} {A : Ab} {σ : Dv} (h : Gd w d m A σ) : Calls Try.prog 23 #[.pointer (some ⟨d, 0, none⟩)] w fun e w' => e = .returned (.int .i64 (used A.now)) ∧ w = w' := by
  have := Used_any (h := h.inv.cel)
  rw [h.un] at this
  exact this
theorem Steps_gd {w : World} {d m : Nat} {A : Ab} {σ : Dv} (h : Gd w d m A σ) : Calls Try.prog 22 #[.pointer (some ⟨d, 0, none⟩)] w fun e w' => e = .returned (.int .i64 A.steps) ∧ w = w' := by
  have := Steps_any (h := h.inv.cel)
  rw [h.steps] at this
  exact this
theorem Down_gd {w : World} {d m : Nat} {A : Ab} {σ : Dv} (h : Gd w d m A σ) : Calls Try.prog 21 #[.pointer (some ⟨d, 0, none⟩)] w fun e w' => e = .returned (.bool A.off) ∧ w = w' := by
  have := Down_any (h := h.inv.cel)
  rw [h.off] at this
  exact this
theorem Free_gd {w : World} {d m : Nat} {A : Ab} {σ : Dv} (h : Gd w d m A σ) : Calls Try.prog 24 #[.pointer (some ⟨d, 0, none⟩)] w fun e w' => e = .returned (.int .i64 (A.room - used A.now)) ∧ ∃ n, w' = w.drewN n := by
  have h1 := h.un
  have h2 := h.room
  have h3 := h.rm
  have h4 := h.unr
  have := Free_any σ.mn σ.ms σ.un σ.us σ.room σ.fuse σ.steps σ.pv σ.off w d h.inv.cel (by omega) (by omega)
  rw [h.un, h.room] at this
  refine this.mono ?_
  rintro e w' ⟨rfl, n, rfl⟩
  exact ⟨rfl, n, rfl⟩

/-- what settled is a plain disk's -/
theorem Gd.settled {w w' : World} {d m K : Nat} {A : Ab} {σ σ' : Dv} {D : Nat → List Int} {pend : List AC} (h : Settled w d 0 σ D K w' σ') (hsafe : cont σ.S = lk A.safe) (hus : σ.us = used A.safe) (hS : Srt A.safe) (hC : Chs σ.cs D pend) (hok : okR A.room A.safe pend) (hK : K ≤ pend.length) (hns : σ.ns + K ≤ m) :
    cont σ'.S = lk (acts A.safe (pend.take K)) ∧ σ'.us = used (acts A.safe (pend.take K)) ∧ σ'.ns ≤ m := by
  have hr := runC_acts hC hS hok K hK
  have e1 := h.con
  have e2 := h.us
  have e3 := h.ns
  rw [hsafe, hus, hr] at e1 e2
  exact ⟨e1, e2, by omega⟩

theorem Sync_gd {w : World} {d m : Nat} {A : Ab} {σ : Dv} (h : Gd w d m A σ) (hm : m < 2000) :
    Calls Try.prog 16 #[.pointer (some ⟨d, 0, none⟩)] w fun e w' => e = .returned (.int .i64 (syA A).2) ∧ ∃ σ', Gd w' d (m + 1) (syA A).1 σ' ∧ Thn w d σ w' σ' := by
  cases ho : A.off with
  | true =>
    simp only [syA, ho, if_true]
    refine (Sync_off w d 0 σ h.inv (by rw [h.off, ho])).mono ?_
    rintro e w' ⟨rfl, rfl⟩
    exact ⟨rfl, σ, h.more, Thn.refl _ _ _⟩
  | false =>
    have hb : ¬ (false = true) := by simp
    by_cases h1 : A.fuse = 1
    · simp only [syA, ho, if_neg hb, if_pos h1]
      refine (Sync_burn w d 0 σ h.inv (by rw [h.off, ho]) (by rw [h.fuse, h1])).mono ?_
      rintro e w' ⟨rfl, hI, hf⟩
      have e1 : stpA A = { A with fuse := 0, off := true } := by unfold stpA; rw [if_pos h1]
      have hG := h.stp (w' := w') (by rw [e1]; rw [h.steps] at hI; exact hI)
      exact ⟨rfl, _, hG, hf.mono (fun k hk => .inl (.inl hk)), fun k hk => .inl hk⟩
    · simp only [syA, ho, if_neg hb, if_neg h1]
      have hcl := h.cl
      have hns := h.ns
      have hfz := h.fz
      have hst := h.st
      have hrm := h.rm
      have hstp := h.stepped
      obtain ⟨s1, s2, s3, s4⟩ := stpA_rest A
      have e1 : stpA A = { A with fuse := max (A.fuse - 1) 0, steps := A.steps + 1 } := by unfold stpA; rw [if_neg h1]
      refine (Sync_done w d 0 σ (Dof σ) h.inv (by rw [h.off, ho]) (by rw [h.fuse]; exact h1) (by rw [h.fuse]; exact hfz) (by rw [h.steps]; omega) h.pd (fun i c hi hc => ?_) (by omega)).mono ?_
      · rw [h.safe, h.us]
        exact okC_acts h.chs h.ss (by omega) h.usf h.ok (by omega) hc
      · rintro e w' ⟨rfl, σ', hS⟩
        obtain ⟨g1, g2, g3⟩ := Gd.settled (m := m) (A := A) (pend := A.pend) hS h.safe h.us h.ss h.chs h.ok (by omega) (by omega)
        rw [hcl, List.take_length, h.run] at g1 g2
        have hr := hS.rest
        have c1 : σ'.cs = [] := by rw [hr]
        have c2 : σ'.un = σ.un := by rw [hr]
        have c3 : σ'.room = σ.room := by rw [hr]
        have c4 : σ'.fuse = max (σ.fuse - 1) 0 := by rw [hr]
        have c5 : σ'.steps = σ.steps + 1 := by rw [hr]
        have c6 : σ'.off = σ.off := by rw [hr]
        have c7 : σ'.nn = σ.nn := by rw [hr]
        have hnn := h.nn
        refine ⟨rfl, σ', ⟨hS.inv, fun x => ?_, g1, by rw [c1]; rfl, ⟨Nat.zero_le _, fun i c a hc => ?_⟩, ?_, g2, ?_, ?_, ?_, ?_, h.sn, trivial, s1.symm, ?_, ?_, by omega, by rw [c1]; simp; omega, hstp.1, hstp.2⟩, hS.fr, hS.ft⟩
        · rw [hS.now x]
          show _ = lk (stpA A).now x
          rw [s1]
          exact h.now x
        · rw [c1] at hc
          simp at hc
        · show _ = ((used (stpA A).now : Nat) : Int)
          rw [c2, s1]; exact h.un
        · show _ = (stpA A).room
          rw [c3, s4]; exact h.room
        · show _ = (stpA A).fuse
          rw [c4, e1, h.fuse]
        · show _ = (stpA A).steps
          rw [c5, e1, h.steps]
        · show _ = (stpA A).off
          rw [c6, e1]; exact h.off
        · show _ ≤ (stpA A).room
          rw [s4]; exact h.unr
        · show (stpA A).room ≤ _
          rw [s4]; exact hrm

/-- how many changes a crash keeps; the files behind it -/
def kept (A : Ab) (keep : Int) : Nat := (min (max keep 0) (A.pend.length : Int)).toNat
def left (A : Ab) (keep torn : Int) : List AC :=
  A.pend.take (kept A keep) ++ (if 0 < torn then (match A.pend[kept A keep]? with
    | some c => if c.k = 0 then [{ c with data := c.data.take (min torn (c.data.length : Int)).toNat }] else []
    | none => []) else [])
def crA (A : Ab) (keep torn : Int) : Ab := { A with now := acts A.safe (left A keep torn), safe := acts A.safe (left A keep torn), pend := [], fuse := 0, off := false }

theorem cutS_own (v : Value) : (cutS v).ownBlock = v.ownBlock := by
  cases v with
  | slice A n c => cases A <;> rfl
  | _ => rfl
theorem Gd.crashed {w w' : World} {d m K : Nat} {A : Ab} {σ : Dv} {D : Nat → List Int} {pend : List AC} (hcr : Crashed w d 0 σ D K w') (hsafe : cont σ.S = lk A.safe) (hus : σ.us = used A.safe) (hS : Srt A.safe) (hC : Chs σ.cs D pend) (hok : okR A.room A.safe pend) (hK : K = pend.length) (hns : σ.ns + K ≤ m)
    (hro : σ.room = A.room) (hst : σ.steps = A.steps) (hu : (used A.safe : Int) ≤ A.room) (hrm : A.room ≤ 16777216) (hstm : 0 ≤ A.steps ∧ A.steps ≤ m) :
    ∃ σ', Gd w' d m { A with now := acts A.safe pend, safe := acts A.safe pend, pend := [], fuse := 0, off := false } σ' ∧ Thn w d σ w' σ' := by
  obtain ⟨w2, σ1, b, hSet, hge, hI, hf⟩ := hcr
  obtain ⟨g1, g2, g3⟩ := Gd.settled (m := m) (A := A) hSet hsafe hus hS hC hok (by omega) hns
  rw [hK, List.take_length] at g1 g2
  have hr := hSet.rest
  have c1 : σ1.cs = [] := by rw [hr]
  have c3 : σ1.room = σ.room := by rw [hr]
  have c5 : σ1.steps = σ.steps := by rw [hr]
  have hur := used_take A.room hu hok pend.length (Nat.le_refl _)
  rw [List.take_length] at hur
  refine ⟨_, ⟨hI, fun x => ?_, ?_, c1 ▸ rfl, ⟨Nat.zero_le _, fun i c a hc => ?_⟩, g2, g2, c3.trans hro, rfl, c5.trans hst, rfl, hS.acts _, trivial, rfl, hur, hrm, g3, ?_, ?_, hstm⟩, ?_, ?_⟩
  · have := congrFun g1 x
    unfold cont at this
    show ((σ1.S (.safe x)).map (fun y => (cutS y.1, y.2))).map Prod.snd = lk (acts A.safe pend) x
    rw [← this]
    cases σ1.S (.safe x) <;> rfl
  · rw [← g1]
    rfl
  · have hc : σ1.cs[i]? = some c := hc
    rw [c1] at hc
    simp at hc
  · show σ1.ns + σ1.cs.length ≤ m
    rw [c1]
    simpa using g3
  · simp
  · exact hSet.fr.then hf (fun k hk => .inl (.inl hk))
  · rintro k (hk | hk | hk | hk | ⟨p, v, l, e, hk⟩)
    · exact .inl (.inl hk)
    · cases hk
      exact .inr (Nat.le_trans hSet.fr.size hge)
    · exact hSet.ft k (.inr (.inr (.inl hk)))
    · exact hSet.ft k (.inr (.inr (.inr (.inl hk))))
    · have e : famTwin σ1.S p = some (v, l) := e
      refine hSet.ft k (.inr (.inr (.inr (.inr ?_))))
      cases p with
      | now x =>
        obtain ⟨v0, e0, rfl⟩ := famTwin_now e
        exact ⟨_, v0, l, e0, by rw [← hk]; exact (cutS_own v0).symm⟩
      | safe x => exact ⟨_, v, l, e, hk⟩
      | pend i => exact ⟨_, v, l, e, hk⟩

theorem okR_one (R : Int) (L : Fl) (c : AC) : okR R L [c] ↔ okA L c ∧ (used (act L c) : Int) ≤ R := by simp [okR]

theorem Crash_gd {w : World} {d m : Nat} {A : Ab} {σ : Dv} (h : Gd w d m A σ) (keep torn : Int) (hm : m < 2000) :
    Calls Try.prog 20 #[.pointer (some ⟨d, 0, none⟩), .int .i64 keep, .int .i64 torn] w fun e w' => e = .returned (.tuple #[]) ∧ ∃ σ', Gd w' d m (crA A keep torn) σ' ∧ Thn w d σ w' σ' := by
  have hcl := h.cl
  have hns := h.ns
  have hrm := h.rm
  have hK : min (max keep 0) (σ.cs.length : Int) = (kept A keep : Int) := by unfold kept; rw [hcl]; omega
  have hKl : kept A keep ≤ A.pend.length := by omega
  have hokC : ∀ i c, i < kept A keep → σ.cs[i]? = some c → okC (runC σ.cs (Dof σ) (cont σ.S) σ.us i).1 c (Dof σ i) ∧ 0 ≤ (runC σ.cs (Dof σ) (cont σ.S) σ.us i).2 ∧ (runC σ.cs (Dof σ) (cont σ.S) σ.us i).2 ≤ 1000000000000 := fun i c hi hc => by
    rw [h.safe, h.us]
    exact okC_acts h.chs h.ss (by omega) h.usf h.ok (by omega) hc
  have hChs : Chs σ.cs (Dof σ) (A.pend.take (kept A keep)) := ⟨by rw [List.length_take]; omega, fun i c a hc ha => h.chs.eq i c a hc (by
    rw [List.getElem?_take] at ha
    split at ha
    · exact ha
    · cases ha)⟩
  have hlen : kept A keep = (A.pend.take (kept A keep)).length := by rw [List.length_take]; omega
  have fin : ∀ {w'}, Crashed w d 0 σ (Dof σ) (kept A keep) w' → left A keep torn = A.pend.take (kept A keep) → ∃ σ', Gd w' d m (crA A keep torn) σ' ∧ Thn w d σ w' σ' := fun hcr hl => by
    unfold crA
    rw [hl]
    exact Gd.crashed hcr h.safe h.us h.ss hChs (okR_take _ h.ok _) hlen (by omega) h.room h.steps h.usf hrm h.st
  by_cases ht : 0 < torn
  · by_cases hlt : kept A keep < A.pend.length
    · obtain ⟨c, hc⟩ : ∃ c, σ.cs[kept A keep]? = some c := ⟨_, List.getElem?_eq_getElem (by omega)⟩
      obtain ⟨a, ha, e1, e2, e3, e4⟩ := h.chs.get hlt hc
      by_cases hk : a.k = 0
      · -- torn
        obtain ⟨p, cap, hpv⟩ := h.inv.pvSome (by omega)
        obtain ⟨n, hn⟩ : ∃ n : Nat, min torn ((Dof σ (kept A keep)).length : Int) = (n : Int) := ⟨(min torn ((Dof σ (kept A keep)).length : Int)).toNat, by omega⟩
        obtain ⟨a', ha'⟩ : ∃ a' : AC, a' = { a with data := a.data.take n } := ⟨_, rfl⟩
        have hleft : left A keep torn = A.pend.take (kept A keep) ++ [a'] := by
          unfold left
          rw [if_pos ht, ha]
          simp only [if_pos hk]
          rw [ha', ← e4, hn]
          rfl
        obtain ⟨ho1, ho2⟩ := okR_at _ h.ok ha
        have hS1 : Srt (acts A.safe (A.pend.take (kept A keep))) := h.ss.acts _
        have hoa' : okA (acts A.safe (A.pend.take (kept A keep))) a' := by
          subst ha'
          exact ⟨ho1.1, ho1.2.1, .inl hk⟩
        have hua' : (used (act (acts A.safe (A.pend.take (kept A keep))) a') : Int) ≤ A.room := by
          have u1 := used_write (acts A.safe (A.pend.take (kept A keep))) a.s a.t a.data
          have u2 := used_write (acts A.safe (A.pend.take (kept A keep))) a.s a.t (a.data.take n)
          have q1 : (⟨0, a.s, a.t, a.data⟩ : AC) = a := by rw [← hk]
          have q2 : (⟨0, a.s, a.t, a.data.take n⟩ : AC) = a' := by rw [← hk, ha']
          rw [q1] at u1
          rw [q2] at u2
          rw [List.length_take] at u2
          omega
        have hok' : okR A.room A.safe (A.pend.take (kept A keep) ++ [a']) := by
          rw [okR_append, okR_one]
          exact ⟨okR_take _ h.ok _, hoa', hua'⟩
        have hChs' : Chs (σ.cs.set (kept A keep) { c with n := n }) (cutD (Dof σ) (kept A keep) n) (A.pend.take (kept A keep) ++ [a']) := by
          refine ⟨by rw [List.length_append, ← hlen, List.length_set]; simp; omega, fun i c' b hc' hb => ?_⟩
          by_cases hi : i < kept A keep
          · rw [List.getElem?_append_left (by omega)] at hb
            rw [List.getElem?_set_ne (by omega)] at hc'
            have := hChs.eq i c' b hc' hb
            unfold cutD
            rw [if_neg (by omega)]
            exact this
          · rw [List.getElem?_append_right (by omega)] at hb
            have hi' : i = kept A keep := by
              have := (List.getElem?_eq_some_iff.1 hb).1
              simp at this
              omega
            subst hi'
            rw [List.getElem?_set_self (by omega)] at hc'
            rw [← hlen] at hb
            simp at hb hc'
            subst hb
            subst hc'
            unfold cutD
            rw [if_pos rfl, e4, ha']
            exact ⟨e1, e2, e3, rfl⟩
        have hlen' : kept A keep + 1 = (A.pend.take (kept A keep) ++ [a']).length := by rw [List.length_append, ← hlen]; rfl
        refine (Crash_torn w d 0 σ (Dof σ) keep torn (kept A keep) h.inv hK ht c p cap hpv hc (e1.trans hk) n hn h.pd (fun i c' hi hc' => ?_) (by omega)).mono ?_
        · rw [h.safe, h.us]
          exact okC_acts hChs' h.ss (by omega) h.usf hok' (by omega) hc'
        · rintro e w' ⟨rfl, W1, hf1, hI1, hcr⟩
          refine ⟨rfl, ?_⟩
          have hcon : cont (cutV σ (kept A keep) c (Dof σ) n).S = lk A.safe := by
            rw [← h.safe]
            funext x
            unfold cont cutV
            simp only
            rw [upd_other _ _ (by simp)]
          obtain ⟨σ', hG, hT⟩ := Gd.crashed (A := A) (m := m) hcr hcon h.us h.ss hChs' hok' hlen' (by show σ.ns + (kept A keep + 1) ≤ m; omega) h.room h.steps h.usf hrm h.st
          unfold crA
          rw [hleft]
          have hft : ∀ k, foot d (cutV σ (kept A keep) c (Dof σ) n) k → foot d σ k := by
            rintro k (hk | hk | hk | hk | ⟨q, v, l, e, hk⟩)
            · exact .inl hk
            · exact .inr (.inl hk)
            · exact .inr (.inr (.inl hk))
            · exact .inr (.inr (.inr (.inl hk)))
            · refine .inr (.inr (.inr (.inr ?_)))
              have e : upd σ.S (.pend (kept A keep)) (some (.slice c.A n c.c, (Dof σ (kept A keep)).take n)) q = some (v, l) := e
              by_cases hq : q = .pend (kept A keep)
              · subst hq
                rw [upd_same] at e
                cases e
                exact ⟨_, _, _, h.pd _ _ hc, by rw [← hk]; cases c.A <;> rfl⟩
              · rw [upd_other _ _ hq] at e
                exact ⟨q, v, l, e, hk⟩
          refine ⟨σ', hG, ⟨(hf1.mono (fun k hk => .inl ?_)).then hT.fr (fun k hk => .inl (hft k hk)), fun k hk => ?_⟩⟩
          · rw [hk]
            exact .inr (.inr (.inr (.inl (by rw [hpv]; rfl))))
          · rcases hT.ft k hk with hk | hk
            · exact .inl (hft k hk)
            · exact .inr (Nat.le_trans hf1.size hk)
      · refine (Crash_kind w d 0 σ (Dof σ) keep torn (kept A keep) h.inv hK ht c hc (by rw [e1]; exact hk) h.pd hokC (by omega)).mono ?_
        rintro e w' ⟨rfl, hcr⟩
        refine ⟨rfl, fin hcr ?_⟩
        unfold left
        rw [if_pos ht, ha]
        simp [hk]
    · refine (Crash_full w d 0 σ (Dof σ) keep torn (kept A keep) h.inv hK ht (by omega) h.pd hokC (by omega)).mono ?_
      rintro e w' ⟨rfl, hcr⟩
      refine ⟨rfl, fin hcr ?_⟩
      unfold left
      rw [if_pos ht, List.getElem?_eq_none (by omega)]
      simp
  · refine (Crash_plain w d 0 σ (Dof σ) keep torn (kept A keep) h.inv hK (by omega) h.pd hokC (by omega)).mono ?_
    rintro e w' ⟨rfl, hcr⟩
    refine ⟨rfl, fin hcr ?_⟩
    unfold left
    rw [if_neg ht]
    simp

end Go.Proofs.Ytbdmlenapccdnaa
namespace Go.Proofs.Ytbdmlenapccdnaa
open Go.RowKit

/-- a disk made behind w0; nothing of w0 has turned -/
def On (w0 w : World) (d m : Nat) (A : Ab) : Prop := ∃ σ, Gd w d m A σ ∧ Fr (fun _ => False) w0 w ∧ ∀ k, foot d σ k → w0.heap.size ≤ k
theorem On.fr {w0 w : World} {d m : Nat} {A : Ab} (h : On w0 w d m A) : Fr (fun _ => False) w0 w := h.choose_spec.2.1
theorem On.keep {w0 w w' : World} {d m : Nat} {A : Ab} (h : On w0 w d m A) (hf : Fr (fun _ => False) w w') : On w0 w' d m A := by
  obtain ⟨σ, h1, h2, h3⟩ := h
  exact ⟨σ, h1.keep hf, h2.trans hf, h3⟩
theorem On.more {w0 w : World} {d m : Nat} {A : Ab} (h : On w0 w d m A) : On w0 w d (m + 1) A := by
  obtain ⟨σ, h1, h2, h3⟩ := h
  exact ⟨σ, h1.more, h2, h3⟩
theorem On.then {w0 w w' : World} {d m' : Nat} {A' : Ab} {σ σ' : Dv} (h2 : Fr (fun _ => False) w0 w) (h3 : ∀ k, foot d σ k → w0.heap.size ≤ k) (h' : Gd w' d m' A' σ') (hT : Thn w d σ w' σ') : On w0 w' d m' A' :=
  ⟨σ', h', h2.then hT.fr (fun k hk => .inr (h3 k hk)), fun k hk => by
    rcases hT.ft k hk with hk | hk
    · exact h3 k hk
    · exact Nat.le_trans h2.size hk⟩
theorem Rd.fr {w w' : World} {k : IntKind} {A : Option Addr} {xs : List Int} (h : Rd w k A xs) (hf : Fr (fun _ => False) w w') : Rd w' k A xs :=
  h.keep hf.size (fun p hp => World.cell?_of_block (hf.block p.block hp (fun h => h)))

theorem New_on (w : World) (room : Int) : Calls Try.prog 8 #[.int .i64 room] w fun e w' => e = .returned (.pointer (some ⟨w.heap.size, 0, none⟩)) ∧ On w w' w.heap.size 0 (newA room) := by
  refine (New_gd w room).mono ?_
  rintro e w' ⟨rfl, σ, h1, h2, h3⟩
  exact ⟨rfl, σ, h1, h2, h3⟩
theorem Write_on {w0 w : World} {d m : Nat} {A : Ab} (h : On w0 w d m A) (s : ByteArray) (A0 : Option Addr) (cap0 : Nat) (data : List Int) (hsm : s.size ≤ maxLen) (hd : Rd w .u8 A0 data) (hA0 : A0 = none → cap0 = 0) (hm : m < 2000) :
    Calls Try.prog 13 #[.pointer (some ⟨d, 0, none⟩), .string s, .slice A0 data.length cap0] w fun e w' => e = .returned (.int .i64 (wrA A s data).2) ∧ On w0 w' d (m + 1) (wrA A s data).1 := by
  obtain ⟨σ, h1, h2, h3⟩ := h
  refine (Write_gd h1 s A0 cap0 data hsm hd hA0 hm).mono ?_
  rintro e w' ⟨rfl, σ', hG, hT⟩
  exact ⟨rfl, On.then h2 h3 hG hT⟩
theorem Move_on {w0 w : World} {d m : Nat} {A : Ab} (h : On w0 w d m A) (s t : ByteArray) (hsm : s.size ≤ maxLen) (htm : t.size ≤ maxLen) (hm : m < 2000) :
    Calls Try.prog 14 #[.pointer (some ⟨d, 0, none⟩), .string s, .string t] w fun e w' => e = .returned (.int .i64 (mvA A s t).2) ∧ On w0 w' d (m + 1) (mvA A s t).1 := by
  obtain ⟨σ, h1, h2, h3⟩ := h
  refine (Move_gd h1 s t hsm htm hm).mono ?_
  rintro e w' ⟨rfl, σ', hG, hT⟩
  exact ⟨rfl, On.then h2 h3 hG hT⟩
theorem Drop_on {w0 w : World} {d m : Nat} {A : Ab} (h : On w0 w d m A) (s : ByteArray) (hsm : s.size ≤ maxLen) (hm : m < 2000) :
    Calls Try.prog 15 #[.pointer (some ⟨d, 0, none⟩), .string s] w fun e w' => e = .returned (.int .i64 (drA A s).2) ∧ On w0 w' d (m + 1) (drA A s).1 := by
  obtain ⟨σ, h1, h2, h3⟩ := h
  refine (Drop_gd h1 s hsm hm).mono ?_
  rintro e w' ⟨rfl, σ', hG, hT⟩
  exact ⟨rfl, On.then h2 h3 hG hT⟩
theorem Sync_on {w0 w : World} {d m : Nat} {A : Ab} (h : On w0 w d m A) (hm : m < 2000) :
    Calls Try.prog 16 #[.pointer (some ⟨d, 0, none⟩)] w fun e w' => e = .returned (.int .i64 (syA A).2) ∧ On w0 w' d (m + 1) (syA A).1 := by
  obtain ⟨σ, h1, h2, h3⟩ := h
  refine (Sync_gd h1 hm).mono ?_
  rintro e w' ⟨rfl, σ', hG, hT⟩
  exact ⟨rfl, On.then h2 h3 hG hT⟩
theorem Crash_on {w0 w : World} {d m : Nat} {A : Ab} (h : On w0 w d m A) (keep torn : Int) (hm : m < 2000) :
    Calls Try.prog 20 #[.pointer (some ⟨d, 0, none⟩), .int .i64 keep, .int .i64 torn] w fun e w' => e = .returned (.tuple #[]) ∧ On w0 w' d m (crA A keep torn) := by
  obtain ⟨σ, h1, h2, h3⟩ := h
  refine (Crash_gd h1 keep torn hm).mono ?_
  rintro e w' ⟨rfl, σ', hG, hT⟩
  exact ⟨rfl, On.then h2 h3 hG hT⟩
theorem Fuse_onD {w0 w : World} {d m : Nat} {A : Ab} (h : On w0 w d m A) (n : Int) (hn : n ≤ 9223372036854775807) :
    Calls Try.prog 19 #[.pointer (some ⟨d, 0, none⟩), .int .i64 n] w fun e w' => e = .returned (.tuple #[]) ∧ On w0 w' d m (fuA A n) := by
  obtain ⟨σ, h1, h2, h3⟩ := h
  refine (Fuse_gd h1 n hn).mono ?_
  rintro e w' ⟨rfl, σ', hG, hT⟩
  exact ⟨rfl, On.then h2 h3 hG hT⟩
/-- a Read, its bytes as a slice that shows what it is -/
theorem Read_on {w0 w : World} {d m : Nat} {A : Ab} (h : On w0 w d m A) (s : ByteArray) (hsm : s.size ≤ maxLen) :
    Calls Try.prog 17 #[.pointer (some ⟨d, 0, none⟩), .string s] w fun e w' => ∃ B c, e = .returned (.tuple #[.slice B (rdA A s).1.length c, .int .i64 (rdA A s).2]) ∧ RdB w' (.slice B (rdA A s).1.length c) (rdA A s).1 ∧ (∀ g, (Value.slice B (rdA A s).1.length c).ownBlock = some g → w.heap.size ≤ g) ∧ On w0 w' d m A ∧ Fr (fun _ => False) w w' := by
  obtain ⟨σ, h1, h2, h3⟩ := h
  refine (Read_gd h1 s hsm).mono ?_
  rintro e w' ⟨u, rfl, hr, hfr, hf⟩
  obtain ⟨B, c, rfl, _, _, _⟩ := hr.form
  exact ⟨B, c, rfl, hr, hfr, ⟨σ, h1.keep hf, h2.trans hf, h3⟩, hf⟩

end Go.Proofs.Ytbdmlenapccdnaa
namespace Go.Proofs.Ytbdmlenapccdnaa
open Go.RowKit

def hA1 : Ab := (wrA (newA 100) ⟨#[97]⟩ [120, 121]).1
def hA2 : Ab := (syA hA1).1
def hA3 : Ab := (wrA hA2 ⟨#[97]⟩ [122, 119]).1
def hA4 : Ab := (mvA hA3 ⟨#[97]⟩ ⟨#[98]⟩).1
def hA5 : Ab := crA hA4 0 1
theorem h1c : (wrA (newA 100) ⟨#[97]⟩ [120, 121]).2 = 0 := by decide
theorem h2c : (syA hA1).2 = 0 := by decide
theorem h3c : (wrA hA2 ⟨#[97]⟩ [122, 119]).2 = 0 := by decide
theorem h4c : (mvA hA3 ⟨#[97]⟩ ⟨#[98]⟩).2 = 0 := by decide
theorem h5c : rdA hA5 ⟨#[97]⟩ = ([120, 121, 122], 0) := by decide
theorem conv_rdbP {P : Program} {t e u : TypeId} (ht : P.underlying t = some (.slice e)) (he : P.underlying e = some (.int .u8)) (hu : P.underlying u = some .string) {w : World} {B : Option Addr} {c : Nat} {l : List Int} (h : RdB w (.slice B l.length c) l) : (convert t u (.slice B l.length c)).run P w = .ok (.string (strOfNums l)) w := by
  rcases h with ⟨h, rfl⟩ | ⟨g, cap, cur, h, hg, hn, hc, _, htk⟩
  · unfold nilS at h
    injection h with h
    subst h
    exact run_convert_bytes_nil w t e ht he 0 c u hu
  · injection h with h1 h2 h3
    subst h1
    refine run_convert_bytes_arg w t e ht he g 0 l.length c l rfl (fun i hi => ?_) u hu
    simp only [World.cell?, hg]
    have h1 : (cur.toList.take l.length)[i]? = some (.int .u8 (l.getD i 0)) := by
      rw [htk, List.getElem?_map, List.getElem?_eq_getElem hi]
      simp [List.getD, List.getElem?_eq_getElem hi]
    rw [List.getElem?_take, if_pos hi, Array.getElem?_toList] at h1
    simpa using h1
theorem conv_rdb {w : World} {B : Option Addr} {c : Nat} {l : List Int} (h : RdB w (.slice B l.length c) l) : (convert 28 9 (.slice B l.length c)).run Try.prog w = .ok (.string (strOfNums l)) w :=
  conv_rdbP Try.underlying28 Try.underlying5 Try.underlying9 h

/-- bytes that came in, as a string -/
theorem conv_rdP {P : Program} {t e u : TypeId} (ht : P.underlying t = some (.slice e)) (he : P.underlying e = some (.int .u8)) (hu : P.underlying u = some .string) {w : World} {b : List Int} {A : Option Addr} {cap : Nat} (hr : Rd w .u8 A b) :
    (convert t u (.slice A b.length cap)).run P w = .ok (.string (strOfNums b)) w := by
  rcases hr with rfl | ⟨bb, off, rfl, _, hc⟩
  · cases A with
    | none => exact run_convert_bytes_nil w t e ht he 0 cap u hu
    | some a => exact run_convert_bytes_back w t u e a cap [] ht he hu (fun j hj => absurd hj (by simp))
  · exact run_convert_bytes_arg w t e ht he bb off b.length cap b rfl (fun i hi => by rw [hc i hi]; simp) u hu
theorem conv_rd4 {w : World} {A : Option Addr} {cap : Nat} {l : List Int} (h : Rd w .u8 A l) : (convert 28 9 (.slice A l.length cap)).run Try.prog w = .ok (.string (strOfNums l)) w :=
  conv_rdP Try.underlying28 Try.underlying5 Try.underlying9 h

theorem rd_new (w : World) (x y : Int) (f : Nat × Nat) : Rd (w.alloc (.cells #[.int .u8 x, .int .u8 y] 5 f)) .u8 (some ⟨w.heap.size, 0, none⟩) [x, y] := by
  refine .inr ⟨_, 0, rfl, by simp, fun i hi => ?_⟩
  have := World.cell?_alloc_mark w #[.int .u8 x, .int .u8 y] 5 f
  rw [Nat.zero_add, this]
  match i, hi with
  | 0, _ => rfl
  | 1, _ => rfl

set_option maxRecDepth 100000 in
set_option maxHeartbeats 400000 in
theorem head4_any (w : World) : Calls Try.prog 7 #[] w fun e w' => e = .returned (.bool true) ∧ Fr (fun _ => False) w w' := by
  have kc := fun (w : World) (C : Array Value) (n c : Nat) => Lib.run_convert_bytes_const (P := Try.prog) w 28 5 C n c Try.underlying28 Try.underlying5
  go_enter Try.func7, Try.ntmps7
  go_wp2_with fail
  refine (New_on w 100).mono ?_
  rintro e w1 ⟨rfl, h1⟩
  go_wp2_with fail
  refine (Write_on (h1.keep (Fr.alloc w1 _ _)) ⟨#[97]⟩ _ 2 [120, 121] (by decide) (rd_new w1 120 121 _) (fun h => by cases h) (by omega)).mono ?_
  rw [h1c]
  rintro e w2 ⟨rfl, h2⟩
  go_wp2_with fail
  refine (Sync_on (A := hA1) h2 (by omega)).mono ?_
  rw [h2c]
  rintro e w3 ⟨rfl, h3⟩
  go_wp2_with fail
  refine (Write_on (A := hA2) (h3.keep (Fr.alloc w3 _ _)) ⟨#[97]⟩ _ 2 [122, 119] (by decide) (rd_new w3 122 119 _) (fun h => by cases h) (by omega)).mono ?_
  rw [h3c]
  rintro e w4 ⟨rfl, h4⟩
  go_wp2_with fail
  refine (Move_on (A := hA3) h4 ⟨#[97]⟩ ⟨#[98]⟩ (by decide) (by decide) (by omega)).mono ?_
  rw [h4c]
  rintro e w5 ⟨rfl, h5⟩
  go_wp2_with fail
  refine (Crash_on (A := hA4) h5 0 1 (by omega)).mono ?_
  rintro e w6 ⟨rfl, h6⟩
  go_wp2_with fail
  refine (Read_on (A := hA5) h6 ⟨#[97]⟩ (by decide)).mono ?_
  rw [h5c]
  rintro e w7 ⟨B, c, rfl, hr, _, h7, _⟩
  have kv := conv_rdb hr
  rw [show strOfNums [120, 121, 122] = ⟨#[120, 121, 122]⟩ from rfl, show [(120 : Int), 121, 122].length = 3 from rfl] at kv
  have hfr := h7.fr
  clear hr h7 h6 h5 h4 h3 h2 h1
  go_wp2
  go_ret
  exact ⟨rfl, hfr⟩
end Go.Proofs.Ytbdmlenapccdnaa
namespace Go.Proofs.Ytbdmlenapccdnaa
open Go.RowKit Go.WideShapes Go.ChangeShapes

theorem block_lt {w : World} {b i : Nat} {v : Value} (h : w.cell? ⟨b, i, none⟩ = some v) : b < w.heap.size := by
  rcases Nat.lt_or_ge b w.heap.size with hlt | hge
  · exact hlt
  · simp [World.cell?, Array.getElem?_eq_none hge] at h

section
variable {H : Type} {enc : TypeId × Value → H} {P : Program}

theorem all_carried (hl : laidOutB P = true) {W W' : World} (hb : Below W.heap.size W W') :
    ∀ (ts : List TypeId) (vs : List Value) (ds : List (DataW H)) (ps : List MemPlace), (ts.all fun t => P.readableRec t && decide (t < P.types.size)) = true →
      (∀ x ∈ ps, x.block < W.heap.size) → DataW.TrodAll enc P W 0 (fun _ => true) true ts vs ds ps → DataW.TrodAll enc P W' 0 (fun b => decide (b < W.heap.size)) true ts vs ds ps
  | [], vs, ds, ps, _, _, h => by
    obtain ⟨rfl, rfl, rfl⟩ := trodAll_nil h
    exact trodAll_mk0
  | t :: ts, vs, ds, ps, ht, hlt, h => by
    obtain ⟨v, vs1, d, ds1, a, b, rfl, rfl, rfl, h1, h2⟩ := trodAll_cons h
    simp only [List.all_cons, Bool.and_eq_true, decide_eq_true_eq] at ht
    refine trodAll_cons_mk (Below.trod hl ht.1.1 ht.1.2 h1 hb fun x hx => hlt x (List.mem_append_left _ hx)) ?_
    exact all_carried hl hb ts vs1 ds1 b ht.2 (fun x hx => hlt x (List.mem_append_right _ hx)) h2

theorem law_post {f : Func} {s : ChangeSpec} {W W' : World} {args : Array Value} {ds gs : List (DataW H)} {before : List MemPlace} {B : TypeId}
    (hl : laidOutB P = true) (hp : (f.params.toList.all fun t => P.readableRec t && decide (t < P.types.size)) = true) (hr : f.resultTypes = #[B]) (hB : P.underlying B = some .bool) (hv : s.vars = [])
    (hW : DataW.Whole enc P f.params.toList s.vars false W args.toList ds gs before) (hfn : s.fn H (ds ++ gs) = { results := [.lit (.bool true)], args := ds }) (hb : Below W.heap.size W W') :
    s.post enc P f false true false false W args (.bool true) W' := by
  have hlt := hW.lt
  have hW0 := hW
  obtain ⟨p, q, hA, hV, rfl, _, _⟩ := hW
  rw [hv] at hV
  obtain ⟨rfl, rfl⟩ := trodVars_none hV
  simp only [List.append_nil] at hlt
  refine ⟨ds, [], p ++ [], [], p, [], hW0, ?_, ?_, ?_, World.keptBut_mono (may := fun x => x ∈ p) (fun x hx => ⟨by simpa using hx, .inr (.inl hx)⟩) (hb.frame _), fun h => by cases h⟩
  · rw [hfn, hr]
    exact trodAll_mk1 (shut_bool hB true)
  · rw [hfn]
    exact all_carried hl hb _ _ _ _ hp hlt hA
  · rw [hfn, hv]
    exact rfl

end

end Go.Proofs.Ytbdmlenapccdnaa
namespace Go.Proofs.Ytbdmlenapccdnaa
open Go.RowKit Go.WideShapes Go.ChangeShapes

theorem open_rd {H : Type} {enc : TypeId × Value → H} {P : Program} {W : World} {base : Nat} {t e : TypeId} {k : IntKind} {v : Value} {d : DataW H} {p : List MemPlace}
    (ht : P.underlying t = some (.slice e)) (he : P.underlying e = some (.int k)) (hc : P.cellsOf e = 1) (hv : Value.okWide P W .any base t v) (h : DataW.Trod enc P W 0 (fun _ => true) true t v d p) :
    ∃ A rs cap, v = .slice A rs.length cap ∧ Rd W k A rs ∧ rs.length ≤ cap ∧ cap ≤ maxLen ∧ (∀ n ∈ rs, (Lit.int k n).wf = true) ∧ (A = none → cap = 0) := by
  obtain ⟨a0, len, cap, rfl⟩ := okWide_slice ht hv
  obtain ⟨fuel, hf⟩ := h
  rcases open_ints ht he hc hf with ⟨hcs, hx⟩ | ⟨a, len', cap', zs, hcs, _, hl, hm, hz, hx, hcell, hwz⟩
  · simp [Value.cells] at hcs
    obtain ⟨rfl, rfl, rfl⟩ := hcs
    exact ⟨none, [], 0, rfl, .inl rfl, by simp, by simp, fun n hn => (by simp at hn), fun _ => rfl⟩
  · simp [Value.cells] at hcs
    obtain ⟨rfl, rfl, rfl⟩ := hcs
    simp only [if_true] at hz
    have hlen : (zs.take len).length = len := by simp; omega
    refine ⟨some a, zs.take len, cap, by rw [hlen], ?_, by omega, hm, fun n hn => hwz n (List.mem_of_mem_take hn), fun h => (by cases h)⟩
    by_cases h0 : len = 0
    · left
      subst h0
      simp
    · right
      obtain ⟨b, off, rfl, hcl⟩ := ints_at hcell (by omega)
      refine ⟨b, off, rfl, block_lt (hcl 0 (by omega)), fun i hi => ?_⟩
      rw [hlen] at hi
      rw [hcl i (by omega)]
      simp [hi]

theorem getD_bd {rs : List Int} {lo hi : Int} (h0 : lo ≤ 0) (h1 : 0 ≤ hi) (h : ∀ n ∈ rs, lo ≤ n ∧ n ≤ hi) (i : Nat) : lo ≤ rs[i]?.getD 0 ∧ rs[i]?.getD 0 ≤ hi := by
  cases hi' : rs[i]? with
  | none => simp; omega
  | some x => exact h x (List.mem_of_getElem? hi')

end Go.Proofs.Ytbdmlenapccdnaa
namespace Go.Proofs.Ytbdmlenapccdnaa
open Go.RowKit Go.WideShapes Go.ChangeShapes Go.Deep

structure OpV where
  k : Int
  s : ByteArray
  t : ByteArray
  A : Option Addr
  b : List Int
  c : Nat
  n : Int
  torn : Int
instance : Inhabited OpV := ⟨⟨0, ⟨#[]⟩, ⟨#[]⟩, none, [], 0, 0, 0⟩⟩
structure OpOk (w : World) (o : OpV) : Prop where
  rd : Rd w .u8 o.A o.b
  cap : o.b.length ≤ o.c
  mx : o.c ≤ maxLen
  nl : o.A = none → o.c = 0
  ss : o.s.size ≤ maxLen
  ts : o.t.size ≤ maxLen
  k : -9223372036854775808 ≤ o.k ∧ o.k ≤ 9223372036854775807
  n : -9223372036854775808 ≤ o.n ∧ o.n ≤ 9223372036854775807
  torn : -9223372036854775808 ≤ o.torn ∧ o.torn ≤ 9223372036854775807
/-- the six cells of one -/
structure OpAt (w : World) (b off : Nat) (o : OpV) : Prop where
  c0 : w.cell? ⟨b, off, none⟩ = some (.int .i64 o.k)
  c1 : w.cell? ⟨b, off + 1, none⟩ = some (.string o.s)
  c2 : w.cell? ⟨b, off + 2, none⟩ = some (.string o.t)
  c3 : w.cell? ⟨b, off + 3, none⟩ = some (.slice o.A o.b.length o.c)
  c4 : w.cell? ⟨b, off + 4, none⟩ = some (.int .i64 o.n)
  c5 : w.cell? ⟨b, off + 5, none⟩ = some (.int .i64 o.torn)
def RdO (w : World) (A : Option Addr) (os : List OpV) : Prop :=
  os = [] ∨ ∃ b off, A = some ⟨b, off, none⟩ ∧ b < w.heap.size ∧ ∀ i o, os[i]? = some o → OpAt w b (off + i * 6) o ∧ OpOk w o

theorem open_bytes {H : Type} {enc : TypeId × Value → H} {P : Program} {W : World} {t e : TypeId} {k : IntKind} {v : Value} {x : DataW H × List MemPlace} {fuel : Nat}
    (ht : P.underlying t = some (.slice e)) (he : P.underlying e = some (.int k)) (hc : P.cellsOf e = 1) (hf : DataW.trod enc P W 0 (fun _ => true) true fuel t [v] = some x) :
    ∃ A rs cap, v = .slice A rs.length cap ∧ Rd W k A rs ∧ rs.length ≤ cap ∧ cap ≤ maxLen ∧ (A = none → cap = 0) := by
  rcases open_ints ht he hc hf with ⟨hcs, hx⟩ | ⟨a, len, cap, zs, hcs, _, hl, hm, hz, hx, hcell, hwz⟩
  · injection hcs with hcs
    subst hcs
    exact ⟨none, [], 0, rfl, .inl rfl, by simp, by simp, fun _ => rfl⟩
  · injection hcs with hcs
    subst hcs
    simp only [if_true] at hz
    have hlen : (zs.take len).length = len := by simp; omega
    refine ⟨some a, zs.take len, cap, by rw [hlen], ?_, by omega, hm, fun h => (by cases h)⟩
    by_cases h0 : len = 0
    · left
      subst h0
      simp
    · right
      obtain ⟨b, off, rfl, hcl⟩ := ints_at hcell (by omega)
      refine ⟨b, off, rfl, block_lt (hcl 0 (by omega)), fun i hi => ?_⟩
      rw [hlen] at hi
      rw [hcl i (by omega)]
      simp [hi]

theorem open_ops {H : Type} {enc : TypeId × Value → H} {P : Program} {W : World} {base : Nat} {t e ti ts tb tu : TypeId} {f0 f1 f2 f3 f4 f5 : Field} {v : Value} {d : DataW H} {p : List MemPlace}
    (ht : P.underlying t = some (.slice e)) (he : P.underlying e = some (.struct #[f0, f1, f2, f3, f4, f5])) (ce : P.cellsOf e = 6)
    (t0 : f0.type = ti) (t1 : f1.type = ts) (t2 : f2.type = ts) (t3 : f3.type = tb) (t4 : f4.type = ti) (t5 : f5.type = ti)
    (o0 : f0.offset = 0) (o1 : f1.offset = 1) (o2 : f2.offset = 2) (o3 : f3.offset = 3) (o4 : f4.offset = 4) (o5 : f5.offset = 5)
    (ci : P.cellsOf ti = 1) (cs : P.cellsOf ts = 1) (cb : P.cellsOf tb = 1) (cu : P.cellsOf tu = 1)
    (ui : P.underlying ti = some (.int .i64)) (us : P.underlying ts = some .string) (ub : P.underlying tb = some (.slice tu)) (uu : P.underlying tu = some (.int .u8))
    (hv : Value.okWide P W .any base t v) (h : DataW.Trod enc P W 0 (fun _ => true) true t v d p) :
    ∃ A os cap, v = .slice A os.length cap ∧ RdO W A os ∧ os.length ≤ cap ∧ cap ≤ maxLen := by
  obtain ⟨a0, len, cap, rfl⟩ := okWide_slice ht hv
  obtain ⟨fuel, hf⟩ := h
  rcases open_slice ht hf with ⟨hcs, hx⟩ | ⟨a, len', cap', m, n, D, Pl, hcs, _, hl, hm, hmm, hx, hel⟩
  · simp [Value.cells] at hcs
    obtain ⟨rfl, rfl, rfl⟩ := hcs
    exact ⟨none, [], 0, rfl, .inl rfl, by simp, by simp⟩
  · simp [Value.cells] at hcs
    obtain ⟨rfl, rfl, rfl⟩ := hcs
    simp only [if_true] at hmm
    rw [hmm] at hel
    have each : ∀ i, i < cap → ∃ o : OpV, (W.cell? (a.add (i * 6)) = some (.int .i64 o.k) ∧ W.cell? (a.add (i * 6 + 1)) = some (.string o.s) ∧ W.cell? (a.add (i * 6 + 2)) = some (.string o.t) ∧ W.cell? (a.add (i * 6 + 3)) = some (.slice o.A o.b.length o.c) ∧ W.cell? (a.add (i * 6 + 4)) = some (.int .i64 o.n) ∧ W.cell? (a.add (i * 6 + 5)) = some (.int .i64 o.torn)) ∧ OpOk W o := by
      intro i hi
      obtain ⟨cs', h1, h2⟩ := hel i hi
      rw [ce] at h1
      obtain ⟨_, hlen, hcell⟩ := World.cells?_some h1
      obtain ⟨xs, k, hk, hxy, _, hxl, hfl⟩ := DataW.trod_struct he h2
      match xs, hxl, cs', hlen with
      | [y0, y1, y2, y3, y4, y5], _, [v0, v1, v2, v3, v4, v5], _ =>
        have g0 := hfl 0 f0 rfl
        have g1 := hfl 1 f1 rfl
        have g2 := hfl 2 f2 rfl
        have g3 := hfl 3 f3 rfl
        have g4 := hfl 4 f4 rfl
        have g5 := hfl 5 f5 rfl
        rw [t0, o0, ci] at g0
        rw [t1, o1, cs] at g1
        rw [t2, o2, cs] at g2
        rw [t3, o3, cb] at g3
        rw [t4, o4, ci] at g4
        rw [t5, o5, ci] at g5
        obtain ⟨n0, e0, _, w0⟩ := DataW.trod_int ui (show DataW.trod enc P W 0 _ true k ti [v0] = some y0 from g0)
        obtain ⟨s1, e1, _, w1⟩ := DataW.trod_string us (show DataW.trod enc P W 0 _ true k ts [v1] = some y1 from g1)
        obtain ⟨s2, e2, _, w2⟩ := DataW.trod_string us (show DataW.trod enc P W 0 _ true k ts [v2] = some y2 from g2)
        obtain ⟨B, rs, cb', e3, hrd, hle, hmx, hno⟩ := open_bytes ub uu cu (show DataW.trod enc P W 0 _ true k tb [v3] = some y3 from g3)
        obtain ⟨n4, e4, _, w4⟩ := DataW.trod_int ui (show DataW.trod enc P W 0 _ true k ti [v4] = some y4 from g4)
        obtain ⟨n5, e5, _, w5⟩ := DataW.trod_int ui (show DataW.trod enc P W 0 _ true k ti [v5] = some y5 from g5)
        injection e0 with e0
        injection e1 with e1
        injection e2 with e2
        injection e4 with e4
        injection e5 with e5
        subst e0 e1 e2 e3 e4 e5
        have q : ∀ j, j < 6 → _ := hcell
        simp only [add_add] at q
        exact ⟨⟨n0, s1, s2, B, rs, cb', n4, n5⟩, ⟨q 0 (by omega), q 1 (by omega), q 2 (by omega), q 3 (by omega), q 4 (by omega), q 5 (by omega)⟩, ⟨hrd, hle, hmx, hno, w1, w2, bounds_i64 w0, bounds_i64 w4, bounds_i64 w5⟩⟩
    obtain ⟨O, hO⟩ := choose_lt each
    refine ⟨some a, (List.range len).map O, cap, by simp, ?_, by simpa using hl, hm⟩
    by_cases h0 : len = 0
    · left
      subst h0
      rfl
    · right
      obtain ⟨b, off, spot⟩ := a
      have hspot : spot = none := by simpa [Addr.add] using World.cell?_spot (hO 0 (by omega)).1.1
      subst hspot
      simp only [Go.WideShapes.add_plain] at hO
      refine ⟨b, off, rfl, block_lt (hO 0 (by omega)).1.1, fun i o hi => ?_⟩
      have hil : i < len := by
        have := (List.getElem?_eq_some_iff.1 hi).1
        simpa using this
      have : O i = o := by
        rw [List.getElem?_map, List.getElem?_range hil] at hi
        simpa using hi
      subst this
      obtain ⟨⟨q0, q1, q2, q3, q4, q5⟩, hk⟩ := hO i (by omega)
      exact ⟨⟨q0, by rw [Nat.add_assoc]; exact q1, by rw [Nat.add_assoc]; exact q2, by rw [Nat.add_assoc]; exact q3, by rw [Nat.add_assoc]; exact q4, by rw [Nat.add_assoc]; exact q5⟩, hk⟩

theorem OpOk.fr {w w' : World} {o : OpV} (h : OpOk w o) (hs : w.heap.size ≤ w'.heap.size) (hc : ∀ p : Addr, p.block < w.heap.size → w'.cell? p = w.cell? p) : OpOk w' o :=
  ⟨h.rd.keep hs hc, h.cap, h.mx, h.nl, h.ss, h.ts, h.k, h.n, h.torn⟩

end Go.Proofs.Ytbdmlenapccdnaa
