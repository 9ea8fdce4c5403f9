/- A disk in memory that is a plain one; a step, a change. -/
import Derived.Test.YtpljmoiemmaecaaAb
namespace Go.Proofs.Ytpljmoiemmaecaa
open Go.RowKit

/-- the data of a disk's changes -/
def Dof (σ : Dv) (i : Nat) : List Int := ((σ.S (.pend i)).map Prod.snd).getD []

structure Gd (w : World) (d m : Nat) (A : Ab) (σ : Dv) : Prop where
  inv : DInv w d 0 σ
  now : ∀ x, (σ.S (.now x)).map Prod.snd = lk A.now x
  safe : cont σ.S = lk A.safe
  cl : σ.cs.length = A.pend.length
  chs : Chs σ.cs (Dof σ) A.pend
  un : σ.un = used A.now
  us : σ.us = used A.safe
  room : σ.room = A.room
  fuse : σ.fuse = A.fuse
  steps : σ.steps = A.steps
  off : σ.off = A.off
  ss : Srt A.safe
  ok : okR A.room A.safe A.pend
  run : acts A.safe A.pend = A.now
  usf : (used A.safe : Int) ≤ A.room
  rm : A.room ≤ 16777216
  nn : σ.nn ≤ m
  ns : σ.ns + σ.cs.length ≤ m
  fz : 0 ≤ A.fuse ∧ A.fuse ≤ 9223372036854775807
  st : 0 ≤ A.steps ∧ A.steps ≤ m

/-- what a call turns: the disk's own blocks, and new ones -/
structure Thn (w : World) (d : Nat) (σ : Dv) (w' : World) (σ' : Dv) : Prop where
  fr : Fr (foot d σ) w w'
  ft : ∀ k, foot d σ' k → foot d σ k ∨ w.heap.size ≤ k
theorem Thn.refl (w : World) (d : Nat) (σ : Dv) : Thn w d σ w σ := ⟨Fr.refl _ _, fun _ h => .inl h⟩
theorem Thn.trans {w w1 w2 : World} {d : Nat} {σ σ1 σ2 : Dv} (h : Thn w d σ w1 σ1) (h' : Thn w1 d σ1 w2 σ2) : Thn w d σ w2 σ2 :=
  ⟨h.fr.then h'.fr h.ft, fun k hk => by
    rcases h'.ft k hk with hk | hk
    · exact h.ft k hk
    · exact .inr (Nat.le_trans h.fr.size hk)⟩

theorem Gd.sn {w : World} {d m : Nat} {A : Ab} {σ : Dv} (h : Gd w d m A σ) : Srt A.now := by rw [← h.run]; exact h.ss.acts _
theorem Gd.unr {w : World} {d m : Nat} {A : Ab} {σ : Dv} (h : Gd w d m A σ) : (used A.now : Int) ≤ A.room := by
  have := used_take A.room h.usf h.ok A.pend.length (Nat.le_refl _)
  rw [List.take_length, h.run] at this
  exact this
theorem Gd.pd {w : World} {d m : Nat} {A : Ab} {σ : Dv} (h : Gd w d m A σ) : ∀ i c, σ.cs[i]? = some c → σ.S (.pend i) = some (.slice c.A c.n c.c, Dof σ i) := by
  intro i c hc
  obtain ⟨l, e, _⟩ := h.inv.pend i c hc
  unfold Dof
  rw [e]
  rfl
theorem Gd.keep {w w' : World} {d m : Nat} {A : Ab} {σ : Dv} (h : Gd w d m A σ) (hf : Fr (fun _ => False) w w') : Gd w' d m A σ :=
  ⟨h.inv.keep hf, h.now, h.safe, h.cl, h.chs, h.un, h.us, h.room, h.fuse, h.steps, h.off, h.ss, h.ok, h.run, h.usf, h.rm, h.nn, h.ns, h.fz, h.st⟩
theorem Gd.more {w : World} {d m : Nat} {A : Ab} {σ : Dv} (h : Gd w d m A σ) : Gd w d (m + 1) A σ :=
  ⟨h.inv, h.now, h.safe, h.cl, h.chs, h.un, h.us, h.room, h.fuse, h.steps, h.off, h.ss, h.ok, h.run, h.usf, h.rm, Nat.le_succ_of_le h.nn, Nat.le_succ_of_le h.ns, h.fz, ⟨h.st.1, by have := h.st.2; omega⟩⟩
/-- the now of a name -/
theorem Gd.getN {w : World} {d m : Nat} {A : Ab} {σ : Dv} (h : Gd w d m A σ) (x : ByteArray) : ∃ v, (σ.S (.now x)).getD (nilS, []) = (v, (lk A.now x).getD []) := by
  rw [← h.now x]
  cases σ.S (.now x) with
  | none => exact ⟨nilS, rfl⟩
  | some y => exact ⟨y.1, rfl⟩
theorem Gd.someN {w : World} {d m : Nat} {A : Ab} {σ : Dv} (h : Gd w d m A σ) {x : ByteArray} {l : List Int} (e : lk A.now x = some l) : ∃ v, σ.S (.now x) = some (v, l) := by
  rw [← h.now x] at e
  cases hS : σ.S (.now x) with
  | none => rw [hS] at e; cases e
  | some y => rw [hS] at e; cases e; exact ⟨y.1, rfl⟩
theorem Gd.noneN {w : World} {d m : Nat} {A : Ab} {σ : Dv} (h : Gd w d m A σ) {x : ByteArray} (e : lk A.now x = none) : σ.S (.now x) = none := by
  rw [← h.now x] at e
  cases hS : σ.S (.now x) with
  | none => rfl
  | some y => rw [hS] at e; cases e

/-- a step, unless the power fails at it -/
def stpA (A : Ab) : Ab := if A.fuse = 1 then { A with fuse := 0, off := true } else { A with fuse := max (A.fuse - 1) 0, steps := A.steps + 1 }
def stpC (A : Ab) : Int := if A.fuse = 1 then 10 else 0
def chgA (A : Ab) (c : AC) : Ab := { stpA A with now := act A.now c, pend := A.pend ++ [c] }
theorem stpA_rest (A : Ab) : (stpA A).now = A.now ∧ (stpA A).safe = A.safe ∧ (stpA A).pend = A.pend ∧ (stpA A).room = A.room := by
  unfold stpA
  split <;> simp
theorem Gd.stepped {w : World} {d m : Nat} {A : Ab} {σ : Dv} (h : Gd w d m A σ) : (0 ≤ (stpA A).fuse ∧ (stpA A).fuse ≤ 9223372036854775807) ∧ (0 ≤ (stpA A).steps ∧ (stpA A).steps ≤ (m + 1 : Nat)) := by
  have := h.fz
  have := h.st
  unfold stpA
  split
  · simp only; omega
  · simp only; omega

theorem Gd.step {w : World} {d m : Nat} {A : Ab} {σ : Dv} (h : Gd w d m A σ) (hoff : A.off = false) (hm : m ≤ 1000000) (w3 : World) (pv' : Value) (mn : Option Nat) (un : Int) (hC : Cel w3 d 61 (dc mn un σ.ms σ.us pv' σ.room σ.fuse σ.steps σ.off)) :
    Calls Try.prog 35 #[.pointer (some ⟨d, 0, none⟩)] w3 fun e w4 => e = .returned (.int .i64 (stpC A)) ∧ Cel w4 d 61 (dc mn un σ.ms σ.us pv' σ.room (stpA A).fuse (stpA A).steps (stpA A).off) ∧ Fr (fun k => k = d) w3 w4 := by
  have hfz := h.fz
  have hst := h.st
  rw [h.fuse, h.steps, h.off] at hC
  unfold stpA stpC
  by_cases h1 : A.fuse = 1
  · rw [if_pos h1, if_pos h1]
    rw [h1] at hC
    exact step_burn (h := hC)
  · rw [if_neg h1, if_neg h1]
    rw [hoff] at hC ⊢
    exact step_ok (h := hC) (h1 := h1) (h2 := hfz) (h3 := by omega)

/-- the fuse, the steps, the power alone turned -/
theorem Gd.stp {w w' : World} {d m : Nat} {A : Ab} {σ : Dv} (h : Gd w d m A σ) (hI : DInv w' d 0 { σ with fuse := (stpA A).fuse, steps := (stpA A).steps, off := (stpA A).off }) : Gd w' d (m + 1) (stpA A) { σ with fuse := (stpA A).fuse, steps := (stpA A).steps, off := (stpA A).off } := by
  obtain ⟨e1, e2, e3, e4⟩ := stpA_rest A
  have hs := h.stepped
  refine ⟨hI, ?_, ?_, ?_, ?_, ?_, ?_, ?_, rfl, rfl, rfl, ?_, ?_, ?_, ?_, ?_, Nat.le_succ_of_le h.nn, Nat.le_succ_of_le h.ns, hs.1, hs.2⟩
  · rw [e1]; exact h.now
  · rw [e2]; exact h.safe
  · rw [e3]; exact h.cl
  · rw [e3]; exact h.chs
  · rw [e1]; exact h.un
  · rw [e2]; exact h.us
  · rw [e4]; exact h.room
  · rw [e2]; exact h.ss
  · rw [e2, e3, e4]; exact h.ok
  · rw [e1, e2, e3]; exact h.run
  · rw [e2, e4]; exact h.usf
  · rw [e4]; exact h.rm

theorem Gd.chg {w w' : World} {d m : Nat} {A : Ab} {σ σ' : Dv} (h : Gd w d m A σ) (c : AC) (ch : Ch) (hI : DInv w' d 0 σ') (hok : okA A.now c) (hu : (used (act A.now c) : Int) ≤ A.room)
    (hnow : ∀ x, (σ'.S (.now x)).map Prod.snd = lk (act A.now c) x) (hsafe : ∀ x, σ'.S (.safe x) = σ.S (.safe x)) (hpend : ∀ i, i < σ.cs.length → σ'.S (.pend i) = σ.S (.pend i)) (hnew : (σ'.S (.pend σ.cs.length)).map Prod.snd = some c.data)
    (hcs : σ'.cs = σ.cs ++ [ch]) (hk : ch.k = c.k) (hs : ch.s = c.s) (ht : ch.t = c.t) (hun : σ'.un = used (act A.now c)) (hus : σ'.us = σ.us) (hro : σ'.room = σ.room) (hfu : σ'.fuse = (stpA A).fuse) (hste : σ'.steps = (stpA A).steps) (hof : σ'.off = (stpA A).off)
    (hnn : σ'.nn ≤ σ.nn + 1) (hns : σ'.ns = σ.ns) : Gd w' d (m + 1) (chgA A c) σ' := by
  obtain ⟨e1, e2, e3, e4⟩ := stpA_rest A
  have hs1 := h.stepped
  have hcl := h.cl
  have hlen : σ'.cs.length = σ.cs.length + 1 := by rw [hcs]; simp
  refine ⟨hI, hnow, ?_, ?_, ⟨?_, ?_⟩, hun, ?_, ?_, hfu, hste, hof, ?_, ?_, ?_, ?_, ?_, ?_, ?_, hs1.1, hs1.2⟩
  · show cont σ'.S = lk (stpA A).safe
    rw [e2, ← h.safe]
    funext x
    unfold cont
    rw [hsafe]
  · show _ = (A.pend ++ [c]).length
    rw [hlen]
    simp [hcl]
  · show (A.pend ++ [c]).length ≤ _
    rw [hlen]
    simp [hcl]
  · intro i c' a hc ha
    have ha : (A.pend ++ [c])[i]? = some a := ha
    rw [hcs] at hc
    by_cases hi : i < σ.cs.length
    · rw [List.getElem?_append_left hi] at hc
      rw [List.getElem?_append_left (by omega)] at ha
      obtain ⟨g1, g2, g3, g4⟩ := h.chs.eq i c' a hc ha
      refine ⟨g1, g2, g3, ?_⟩
      rw [← g4]
      unfold Dof
      rw [hpend i hi]
    · rw [List.getElem?_append_right (by omega)] at hc
      rw [List.getElem?_append_right (by omega)] at ha
      have hi' : i = σ.cs.length := by
        have := (List.getElem?_eq_some_iff.1 hc).1
        simp at this
        omega
      subst hi'
      rw [hcl] at ha
      simp at hc ha
      subst hc
      subst ha
      refine ⟨hk, hs, ht, ?_⟩
      unfold Dof
      rw [hnew]
      rfl
  · show σ'.us = used (stpA A).safe
    rw [hus, e2]; exact h.us
  · show σ'.room = (stpA A).room
    rw [hro, e4]; exact h.room
  · show Srt (stpA A).safe
    rw [e2]; exact h.ss
  · show okR (stpA A).room (stpA A).safe (A.pend ++ [c])
    rw [e2, e4, okR_append, h.run]
    exact ⟨h.ok, hok, hu, trivial⟩
  · show acts (stpA A).safe (A.pend ++ [c]) = act A.now c
    rw [e2, acts_append, h.run]
    rfl
  · show (used (stpA A).safe : Int) ≤ (stpA A).room
    rw [e2, e4]; exact h.usf
  · show (stpA A).room ≤ _
    rw [e4]; exact h.rm
  · have := h.nn; omega
  · have := h.ns
    rw [hlen, hns]
    omega

end Go.Proofs.Ytpljmoiemmaecaa
