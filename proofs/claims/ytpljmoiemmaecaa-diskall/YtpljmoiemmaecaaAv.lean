/- The calls of a disk by the plain one: Sync, Fuse, New, Crash, and what is asked of it. -/
import Derived.Test.YtpljmoiemmaecaaAu
namespace Go.Proofs.Ytpljmoiemmaecaa
open Go.RowKit

def newA (room : Int) : Ab := ⟨[], [], [], min (max room 0) 16777216, 0, 0, false⟩
theorem New_gd (w : World) (room : Int) : Calls Try.prog 10 #[.int .i64 room] w fun e w' => e = .returned (.pointer (some ⟨w.heap.size, 0, none⟩)) ∧ ∃ σ, Gd w' w.heap.size 0 (newA room) σ ∧ Fr (fun _ => False) w w' ∧ ∀ k, foot w.heap.size σ k → w.heap.size ≤ k := by
  refine (New_any room w).mono ?_
  rintro e w' ⟨rfl, hC, hf⟩
  refine ⟨rfl, fresh (min (max room 0) 16777216), ⟨DInv_fresh hC, fun _ => rfl, rfl, rfl, ⟨Nat.le_refl _, fun i c a hc => ?_⟩, rfl, rfl, rfl, rfl, rfl, rfl, List.Pairwise.nil, trivial, rfl, ?_, ?_, Nat.le_refl _, Nat.le_refl _, ?_, ?_⟩, hf, ?_⟩
  · simp [fresh] at hc
  · simp only [newA, used]; omega
  · simp only [newA]; omega
  · simp only [newA]; omega
  · simp only [newA]; omega
  · rintro k (hk | hk | hk | hk | ⟨p, v, l, e, hk⟩)
    · omega
    · cases hk
    · cases hk
    · cases hk
    · cases e

theorem Fuse_gd {w : World} {d m : Nat} {A : Ab} {σ : Dv} (h : Gd w d m A σ) (n : Int) (hn : n ≤ 9223372036854775807) :
    Calls Try.prog 21 #[.pointer (some ⟨d, 0, none⟩), .int .i64 n] w fun e w' => e = .returned (.tuple #[]) ∧ ∃ σ', Gd w' d m (fuA A n) σ' ∧ Thn w d σ w' σ' := by
  cases ho : A.off with
  | true =>
    have e1 : fuA A n = A := by unfold fuA; rw [if_pos ho]
    rw [e1]
    refine (Fuse_off w d 0 σ n h.inv (by rw [h.off, ho])).mono ?_
    rintro e w' ⟨rfl, rfl⟩
    exact ⟨rfl, σ, h, Thn.refl _ _ _⟩
  | false =>
    have e1 : fuA A n = { A with fuse := max n 0 } := by unfold fuA; rw [if_neg (by rw [ho]; simp)]
    rw [e1]
    refine (Fuse_on w d 0 σ n h.inv (by rw [h.off, ho])).mono ?_
    rintro e w' ⟨rfl, hI, hf⟩
    refine ⟨rfl, _, ⟨hI, h.now, h.safe, h.cl, h.chs, h.un, h.us, h.room, rfl, h.steps, h.off, h.ss, h.ok, h.run, h.usf, h.rm, h.nn, h.ns, ?_, h.st⟩, hf.mono (fun k hk => .inl (.inl hk)), fun k hk => .inl hk⟩
    show 0 ≤ max n 0 ∧ max n 0 ≤ _
    omega

theorem Used_gd {w : World} {d m : Nat} {A : Ab} {σ : Dv} (h : Gd w d m A σ) : Calls Try.prog 25 #[.pointer (some ⟨d, 0, none⟩)] w fun e w' => e = .returned (.int .i64 (used A.now)) ∧ w = w' := by
  have := Used_any (h := h.inv.cel)
  rw [h.un] at this
  exact this
theorem Steps_gd {w : World} {d m : Nat} {A : Ab} {σ : Dv} (h : Gd w d m A σ) : Calls Try.prog 24 #[.pointer (some ⟨d, 0, none⟩)] w fun e w' => e = .returned (.int .i64 A.steps) ∧ w = w' := by
  have := Steps_any (h := h.inv.cel)
  rw [h.steps] at this
  exact this
theorem Down_gd {w : World} {d m : Nat} {A : Ab} {σ : Dv} (h : Gd w d m A σ) : Calls Try.prog 23 #[.pointer (some ⟨d, 0, none⟩)] w fun e w' => e = .returned (.bool A.off) ∧ w = w' := by
  have := Down_any (h := h.inv.cel)
  rw [h.off] at this
  exact this
theorem Free_gd {w : World} {d m : Nat} {A : Ab} {σ : Dv} (h : Gd w d m A σ) : Calls Try.prog 26 #[.pointer (some ⟨d, 0, none⟩)] w fun e w' => e = .returned (.int .i64 (A.room - used A.now)) ∧ ∃ n, w' = w.drewN n := by
  have h1 := h.un
  have h2 := h.room
  have h3 := h.rm
  have h4 := h.unr
  have := Free_any σ.mn σ.ms σ.un σ.us σ.room σ.fuse σ.steps σ.pv σ.off w d h.inv.cel (by omega) (by omega)
  rw [h.un, h.room] at this
  refine this.mono ?_
  rintro e w' ⟨rfl, n, rfl⟩
  exact ⟨rfl, n, rfl⟩

/-- what settled is a plain disk's -/
theorem Gd.settled {w w' : World} {d m K : Nat} {A : Ab} {σ σ' : Dv} {D : Nat → List Int} {pend : List AC} (h : Settled w d 0 σ D K w' σ') (hsafe : cont σ.S = lk A.safe) (hus : σ.us = used A.safe) (hS : Srt A.safe) (hC : Chs σ.cs D pend) (hok : okR A.room A.safe pend) (hK : K ≤ pend.length) (hns : σ.ns + K ≤ m) :
    cont σ'.S = lk (acts A.safe (pend.take K)) ∧ σ'.us = used (acts A.safe (pend.take K)) ∧ σ'.ns ≤ m := by
  have hr := runC_acts hC hS hok K hK
  have e1 := h.con
  have e2 := h.us
  have e3 := h.ns
  rw [hsafe, hus, hr] at e1 e2
  exact ⟨e1, e2, by omega⟩

theorem Sync_gd {w : World} {d m : Nat} {A : Ab} {σ : Dv} (h : Gd w d m A σ) (hm : m < 2000) :
    Calls Try.prog 18 #[.pointer (some ⟨d, 0, none⟩)] w fun e w' => e = .returned (.int .i64 (syA A).2) ∧ ∃ σ', Gd w' d (m + 1) (syA A).1 σ' ∧ Thn w d σ w' σ' := by
  cases ho : A.off with
  | true =>
    simp only [syA, ho, if_true]
    refine (Sync_off w d 0 σ h.inv (by rw [h.off, ho])).mono ?_
    rintro e w' ⟨rfl, rfl⟩
    exact ⟨rfl, σ, h.more, Thn.refl _ _ _⟩
  | false =>
    have hb : ¬ (false = true) := by simp
    by_cases h1 : A.fuse = 1
    · simp only [syA, ho, if_neg hb, if_pos h1]
      refine (Sync_burn w d 0 σ h.inv (by rw [h.off, ho]) (by rw [h.fuse, h1])).mono ?_
      rintro e w' ⟨rfl, hI, hf⟩
      have e1 : stpA A = { A with fuse := 0, off := true } := by unfold stpA; rw [if_pos h1]
      have hG := h.stp (w' := w') (by rw [e1]; rw [h.steps] at hI; exact hI)
      exact ⟨rfl, _, hG, hf.mono (fun k hk => .inl (.inl hk)), fun k hk => .inl hk⟩
    · simp only [syA, ho, if_neg hb, if_neg h1]
      have hcl := h.cl
      have hns := h.ns
      have hfz := h.fz
      have hst := h.st
      have hrm := h.rm
      have hstp := h.stepped
      obtain ⟨s1, s2, s3, s4⟩ := stpA_rest A
      have e1 : stpA A = { A with fuse := max (A.fuse - 1) 0, steps := A.steps + 1 } := by unfold stpA; rw [if_neg h1]
      refine (Sync_done w d 0 σ (Dof σ) h.inv (by rw [h.off, ho]) (by rw [h.fuse]; exact h1) (by rw [h.fuse]; exact hfz) (by rw [h.steps]; omega) h.pd (fun i c hi hc => ?_) (by omega)).mono ?_
      · rw [h.safe, h.us]
        exact okC_acts h.chs h.ss (by omega) h.usf h.ok (by omega) hc
      · rintro e w' ⟨rfl, σ', hS⟩
        obtain ⟨g1, g2, g3⟩ := Gd.settled (m := m) (A := A) (pend := A.pend) hS h.safe h.us h.ss h.chs h.ok (by omega) (by omega)
        rw [hcl, List.take_length, h.run] at g1 g2
        have hr := hS.rest
        have c1 : σ'.cs = [] := by rw [hr]
        have c2 : σ'.un = σ.un := by rw [hr]
        have c3 : σ'.room = σ.room := by rw [hr]
        have c4 : σ'.fuse = max (σ.fuse - 1) 0 := by rw [hr]
        have c5 : σ'.steps = σ.steps + 1 := by rw [hr]
        have c6 : σ'.off = σ.off := by rw [hr]
        have c7 : σ'.nn = σ.nn := by rw [hr]
        have hnn := h.nn
        refine ⟨rfl, σ', ⟨hS.inv, fun x => ?_, g1, by rw [c1]; rfl, ⟨Nat.zero_le _, fun i c a hc => ?_⟩, ?_, g2, ?_, ?_, ?_, ?_, h.sn, trivial, s1.symm, ?_, ?_, by omega, by rw [c1]; simp; omega, hstp.1, hstp.2⟩, hS.fr, hS.ft⟩
        · rw [hS.now x]
          show _ = lk (stpA A).now x
          rw [s1]
          exact h.now x
        · rw [c1] at hc
          simp at hc
        · show _ = ((used (stpA A).now : Nat) : Int)
          rw [c2, s1]; exact h.un
        · show _ = (stpA A).room
          rw [c3, s4]; exact h.room
        · show _ = (stpA A).fuse
          rw [c4, e1, h.fuse]
        · show _ = (stpA A).steps
          rw [c5, e1, h.steps]
        · show _ = (stpA A).off
          rw [c6, e1]; exact h.off
        · show _ ≤ (stpA A).room
          rw [s4]; exact h.unr
        · show (stpA A).room ≤ _
          rw [s4]; exact hrm

/-- how many changes a crash keeps; the files behind it -/
def kept (A : Ab) (keep : Int) : Nat := (min (max keep 0) (A.pend.length : Int)).toNat
def left (A : Ab) (keep torn : Int) : List AC :=
  A.pend.take (kept A keep) ++ (if 0 < torn then (match A.pend[kept A keep]? with
    | some c => if c.k = 0 then [{ c with data := c.data.take (min torn (c.data.length : Int)).toNat }] else []
    | none => []) else [])
def crA (A : Ab) (keep torn : Int) : Ab := { A with now := acts A.safe (left A keep torn), safe := acts A.safe (left A keep torn), pend := [], fuse := 0, off := false }

theorem cutS_own (v : Value) : (cutS v).ownBlock = v.ownBlock := by
  cases v with
  | slice A n c => cases A <;> rfl
  | _ => rfl
theorem Gd.crashed {w w' : World} {d m K : Nat} {A : Ab} {σ : Dv} {D : Nat → List Int} {pend : List AC} (hcr : Crashed w d 0 σ D K w') (hsafe : cont σ.S = lk A.safe) (hus : σ.us = used A.safe) (hS : Srt A.safe) (hC : Chs σ.cs D pend) (hok : okR A.room A.safe pend) (hK : K = pend.length) (hns : σ.ns + K ≤ m)
    (hro : σ.room = A.room) (hst : σ.steps = A.steps) (hu : (used A.safe : Int) ≤ A.room) (hrm : A.room ≤ 16777216) (hstm : 0 ≤ A.steps ∧ A.steps ≤ m) :
    ∃ σ', Gd w' d m { A with now := acts A.safe pend, safe := acts A.safe pend, pend := [], fuse := 0, off := false } σ' ∧ Thn w d σ w' σ' := by
  obtain ⟨w2, σ1, b, hSet, hge, hI, hf⟩ := hcr
  obtain ⟨g1, g2, g3⟩ := Gd.settled (m := m) (A := A) hSet hsafe hus hS hC hok (by omega) hns
  rw [hK, List.take_length] at g1 g2
  have hr := hSet.rest
  have c1 : σ1.cs = [] := by rw [hr]
  have c3 : σ1.room = σ.room := by rw [hr]
  have c5 : σ1.steps = σ.steps := by rw [hr]
  have hur := used_take A.room hu hok pend.length (Nat.le_refl _)
  rw [List.take_length] at hur
  refine ⟨_, ⟨hI, fun x => ?_, ?_, c1 ▸ rfl, ⟨Nat.zero_le _, fun i c a hc => ?_⟩, g2, g2, c3.trans hro, rfl, c5.trans hst, rfl, hS.acts _, trivial, rfl, hur, hrm, g3, ?_, ?_, hstm⟩, ?_, ?_⟩
  · have := congrFun g1 x
    unfold cont at this
    show ((σ1.S (.safe x)).map (fun y => (cutS y.1, y.2))).map Prod.snd = lk (acts A.safe pend) x
    rw [← this]
    cases σ1.S (.safe x) <;> rfl
  · rw [← g1]
    rfl
  · have hc : σ1.cs[i]? = some c := hc
    rw [c1] at hc
    simp at hc
  · show σ1.ns + σ1.cs.length ≤ m
    rw [c1]
    simpa using g3
  · simp
  · exact hSet.fr.then hf (fun k hk => .inl (.inl hk))
  · rintro k (hk | hk | hk | hk | ⟨p, v, l, e, hk⟩)
    · exact .inl (.inl hk)
    · cases hk
      exact .inr (Nat.le_trans hSet.fr.size hge)
    · exact hSet.ft k (.inr (.inr (.inl hk)))
    · exact hSet.ft k (.inr (.inr (.inr (.inl hk))))
    · have e : famTwin σ1.S p = some (v, l) := e
      refine hSet.ft k (.inr (.inr (.inr (.inr ?_))))
      cases p with
      | now x =>
        obtain ⟨v0, e0, rfl⟩ := famTwin_now e
        exact ⟨_, v0, l, e0, by rw [← hk]; exact (cutS_own v0).symm⟩
      | safe x => exact ⟨_, v, l, e, hk⟩
      | pend i => exact ⟨_, v, l, e, hk⟩

theorem okR_one (R : Int) (L : Fl) (c : AC) : okR R L [c] ↔ okA L c ∧ (used (act L c) : Int) ≤ R := by simp [okR]

theorem Crash_gd {w : World} {d m : Nat} {A : Ab} {σ : Dv} (h : Gd w d m A σ) (keep torn : Int) (hm : m < 2000) :
    Calls Try.prog 22 #[.pointer (some ⟨d, 0, none⟩), .int .i64 keep, .int .i64 torn] w fun e w' => e = .returned (.tuple #[]) ∧ ∃ σ', Gd w' d m (crA A keep torn) σ' ∧ Thn w d σ w' σ' := by
  have hcl := h.cl
  have hns := h.ns
  have hrm := h.rm
  have hK : min (max keep 0) (σ.cs.length : Int) = (kept A keep : Int) := by unfold kept; rw [hcl]; omega
  have hKl : kept A keep ≤ A.pend.length := by omega
  have hokC : ∀ i c, i < kept A keep → σ.cs[i]? = some c → okC (runC σ.cs (Dof σ) (cont σ.S) σ.us i).1 c (Dof σ i) ∧ 0 ≤ (runC σ.cs (Dof σ) (cont σ.S) σ.us i).2 ∧ (runC σ.cs (Dof σ) (cont σ.S) σ.us i).2 ≤ 1000000000000 := fun i c hi hc => by
    rw [h.safe, h.us]
    exact okC_acts h.chs h.ss (by omega) h.usf h.ok (by omega) hc
  have hChs : Chs σ.cs (Dof σ) (A.pend.take (kept A keep)) := ⟨by rw [List.length_take]; omega, fun i c a hc ha => h.chs.eq i c a hc (by
    rw [List.getElem?_take] at ha
    split at ha
    · exact ha
    · cases ha)⟩
  have hlen : kept A keep = (A.pend.take (kept A keep)).length := by rw [List.length_take]; omega
  have fin : ∀ {w'}, Crashed w d 0 σ (Dof σ) (kept A keep) w' → left A keep torn = A.pend.take (kept A keep) → ∃ σ', Gd w' d m (crA A keep torn) σ' ∧ Thn w d σ w' σ' := fun hcr hl => by
    unfold crA
    rw [hl]
    exact Gd.crashed hcr h.safe h.us h.ss hChs (okR_take _ h.ok _) hlen (by omega) h.room h.steps h.usf hrm h.st
  by_cases ht : 0 < torn
  · by_cases hlt : kept A keep < A.pend.length
    · obtain ⟨c, hc⟩ : ∃ c, σ.cs[kept A keep]? = some c := ⟨_, List.getElem?_eq_getElem (by omega)⟩
      obtain ⟨a, ha, e1, e2, e3, e4⟩ := h.chs.get hlt hc
      by_cases hk : a.k = 0
      · -- torn
        obtain ⟨p, cap, hpv⟩ := h.inv.pvSome (by omega)
        obtain ⟨n, hn⟩ : ∃ n : Nat, min torn ((Dof σ (kept A keep)).length : Int) = (n : Int) := ⟨(min torn ((Dof σ (kept A keep)).length : Int)).toNat, by omega⟩
        obtain ⟨a', ha'⟩ : ∃ a' : AC, a' = { a with data := a.data.take n } := ⟨_, rfl⟩
        have hleft : left A keep torn = A.pend.take (kept A keep) ++ [a'] := by
          unfold left
          rw [if_pos ht, ha]
          simp only [if_pos hk]
          rw [ha', ← e4, hn]
          rfl
        obtain ⟨ho1, ho2⟩ := okR_at _ h.ok ha
        have hS1 : Srt (acts A.safe (A.pend.take (kept A keep))) := h.ss.acts _
        have hoa' : okA (acts A.safe (A.pend.take (kept A keep))) a' := by
          subst ha'
          exact ⟨ho1.1, ho1.2.1, .inl hk⟩
        have hua' : (used (act (acts A.safe (A.pend.take (kept A keep))) a') : Int) ≤ A.room := by
          have u1 := used_write (acts A.safe (A.pend.take (kept A keep))) a.s a.t a.data
          have u2 := used_write (acts A.safe (A.pend.take (kept A keep))) a.s a.t (a.data.take n)
          have q1 : (⟨0, a.s, a.t, a.data⟩ : AC) = a := by rw [← hk]
          have q2 : (⟨0, a.s, a.t, a.data.take n⟩ : AC) = a' := by rw [← hk, ha']
          rw [q1] at u1
          rw [q2] at u2
          rw [List.length_take] at u2
          omega
        have hok' : okR A.room A.safe (A.pend.take (kept A keep) ++ [a']) := by
          rw [okR_append, okR_one]
          exact ⟨okR_take _ h.ok _, hoa', hua'⟩
        have hChs' : Chs (σ.cs.set (kept A keep) { c with n := n }) (cutD (Dof σ) (kept A keep) n) (A.pend.take (kept A keep) ++ [a']) := by
          refine ⟨by rw [List.length_append, ← hlen, List.length_set]; simp; omega, fun i c' b hc' hb => ?_⟩
          by_cases hi : i < kept A keep
          · rw [List.getElem?_append_left (by omega)] at hb
            rw [List.getElem?_set_ne (by omega)] at hc'
            have := hChs.eq i c' b hc' hb
            unfold cutD
            rw [if_neg (by omega)]
            exact this
          · rw [List.getElem?_append_right (by omega)] at hb
            have hi' : i = kept A keep := by
              have := (List.getElem?_eq_some_iff.1 hb).1
              simp at this
              omega
            subst hi'
            rw [List.getElem?_set_self (by omega)] at hc'
            rw [← hlen] at hb
            simp at hb hc'
            subst hb
            subst hc'
            unfold cutD
            rw [if_pos rfl, e4, ha']
            exact ⟨e1, e2, e3, rfl⟩
        have hlen' : kept A keep + 1 = (A.pend.take (kept A keep) ++ [a']).length := by rw [List.length_append, ← hlen]; rfl
        refine (Crash_torn w d 0 σ (Dof σ) keep torn (kept A keep) h.inv hK ht c p cap hpv hc (e1.trans hk) n hn h.pd (fun i c' hi hc' => ?_) (by omega)).mono ?_
        · rw [h.safe, h.us]
          exact okC_acts hChs' h.ss (by omega) h.usf hok' (by omega) hc'
        · rintro e w' ⟨rfl, W1, hf1, hI1, hcr⟩
          refine ⟨rfl, ?_⟩
          have hcon : cont (cutV σ (kept A keep) c (Dof σ) n).S = lk A.safe := by
            rw [← h.safe]
            funext x
            unfold cont cutV
            simp only
            rw [upd_other _ _ (by simp)]
          obtain ⟨σ', hG, hT⟩ := Gd.crashed (A := A) (m := m) hcr hcon h.us h.ss hChs' hok' hlen' (by show σ.ns + (kept A keep + 1) ≤ m; omega) h.room h.steps h.usf hrm h.st
          unfold crA
          rw [hleft]
          have hft : ∀ k, foot d (cutV σ (kept A keep) c (Dof σ) n) k → foot d σ k := by
            rintro k (hk | hk | hk | hk | ⟨q, v, l, e, hk⟩)
            · exact .inl hk
            · exact .inr (.inl hk)
            · exact .inr (.inr (.inl hk))
            · exact .inr (.inr (.inr (.inl hk)))
            · refine .inr (.inr (.inr (.inr ?_)))
              have e : upd σ.S (.pend (kept A keep)) (some (.slice c.A n c.c, (Dof σ (kept A keep)).take n)) q = some (v, l) := e
              by_cases hq : q = .pend (kept A keep)
              · subst hq
                rw [upd_same] at e
                cases e
                exact ⟨_, _, _, h.pd _ _ hc, by rw [← hk]; cases c.A <;> rfl⟩
              · rw [upd_other _ _ hq] at e
                exact ⟨q, v, l, e, hk⟩
          refine ⟨σ', hG, ⟨(hf1.mono (fun k hk => .inl ?_)).then hT.fr (fun k hk => .inl (hft k hk)), fun k hk => ?_⟩⟩
          · rw [hk]
            exact .inr (.inr (.inr (.inl (by rw [hpv]; rfl))))
          · rcases hT.ft k hk with hk | hk
            · exact .inl (hft k hk)
            · exact .inr (Nat.le_trans hf1.size hk)
      · refine (Crash_kind w d 0 σ (Dof σ) keep torn (kept A keep) h.inv hK ht c hc (by rw [e1]; exact hk) h.pd hokC (by omega)).mono ?_
        rintro e w' ⟨rfl, hcr⟩
        refine ⟨rfl, fin hcr ?_⟩
        unfold left
        rw [if_pos ht, ha]
        simp [hk]
    · refine (Crash_full w d 0 σ (Dof σ) keep torn (kept A keep) h.inv hK ht (by omega) h.pd hokC (by omega)).mono ?_
      rintro e w' ⟨rfl, hcr⟩
      refine ⟨rfl, fin hcr ?_⟩
      unfold left
      rw [if_pos ht, List.getElem?_eq_none (by omega)]
      simp
  · refine (Crash_plain w d 0 σ (Dof σ) keep torn (kept A keep) h.inv hK (by omega) h.pd hokC (by omega)).mono ?_
    rintro e w' ⟨rfl, hcr⟩
    refine ⟨rfl, fin hcr ?_⟩
    unfold left
    rw [if_neg ht]
    simp

end Go.Proofs.Ytpljmoiemmaecaa
