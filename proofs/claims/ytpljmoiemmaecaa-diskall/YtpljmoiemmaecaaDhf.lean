/- The law DiskSafe, walked. -/
import Derived.Test.YtpljmoiemmaecaaDh
import Derived.Test.YtpljmoiemmaecaaDhs
import Derived.Test.YtpljmoiemmaecaaOo
namespace Go.Proofs.Ytpljmoiemmaecaa
open Go.RowKit

def sOwn : ByteArray := ⟨#[111, 119, 110]⟩
theorem n_own : Dx.name sOwn = true := by decide
/-- a disk on which the file own is safe, and no change is about it -/
structure Sf (a : List Int) (A : Ab) : Prop where
  off : A.off = false
  fuse : A.fuse = 0
  safe : lk A.safe sOwn = some a
  pend : ∀ c ∈ A.pend, c.s ≠ sOwn ∧ c.t ≠ sOwn
theorem lk_act_other {L : Fl} (h : Srt L) {c : AC} {x : ByteArray} (h1 : c.s ≠ x) (h2 : c.t ≠ x) : lk (act L c) x = lk L x := by
  unfold act
  split
  · rw [lk_put h, if_neg (fun e => h1 e.symm)]
  · split
    · rw [lk_put h.del, if_neg (fun e => h2 e.symm), lk_del h, if_neg (fun e => h1 e.symm)]
    · rw [lk_del h, if_neg (fun e => h1 e.symm)]
theorem lk_acts_other {x : ByteArray} : ∀ {L : Fl} (cs : List AC), Srt L → (∀ c ∈ cs, c.s ≠ x ∧ c.t ≠ x) → lk (acts L cs) x = lk L x
  | _, [], _, _ => rfl
  | L, c :: cs, h, hc => by
    have h1 := hc c (by simp)
    show lk (acts (act L c) cs) x = _
    rw [lk_acts_other cs (h.act c) (fun c' h' => hc c' (by simp [h'])), lk_act_other h h1.1 h1.2]
theorem mem_left {A : Ab} {keep torn : Int} {c : AC} (h : c ∈ left A keep torn) : ∃ c' ∈ A.pend, c.s = c'.s ∧ c.t = c'.t := by
  unfold left at h
  rcases List.mem_append.1 h with h | h
  · exact ⟨c, List.mem_of_mem_take h, rfl, rfl⟩
  · split at h
    · split at h
      · rename_i c' hc'
        split at h
        · simp at h
          subst h
          exact ⟨c', List.mem_of_getElem? hc', rfl, rfl⟩
        · cases h
      · cases h
    · cases h
theorem Sf.chg {a : List Int} {A : Ab} (h : Sf a A) {c : AC} (hs : c.s ≠ sOwn) (ht : c.t ≠ sOwn) : Sf a (chgA A c) := by
  have hf : ¬ A.fuse = 1 := by rw [h.fuse]; decide
  have e : stpA A = { A with fuse := max (A.fuse - 1) 0, steps := A.steps + 1 } := by unfold stpA; rw [if_neg hf]
  unfold chgA
  rw [e]
  refine ⟨h.off, ?_, h.safe, fun c' hc' => ?_⟩
  · show max (A.fuse - 1) 0 = 0
    rw [h.fuse]
    decide
  · rcases List.mem_append.1 hc' with hc' | hc'
    · exact h.pend c' hc'
    · simp at hc'
      subst hc'
      exact ⟨hs, ht⟩
theorem Sf.stp {a : List Int} {A : Ab} (h : Sf a A) : Sf a (stpA A) := by
  have hf : ¬ A.fuse = 1 := by rw [h.fuse]; decide
  have e : stpA A = { A with fuse := max (A.fuse - 1) 0, steps := A.steps + 1 } := by unfold stpA; rw [if_neg hf]
  rw [e]
  refine ⟨h.off, ?_, h.safe, h.pend⟩
  show max (A.fuse - 1) 0 = 0
  rw [h.fuse]
  decide
theorem Sf.write {a : List Int} {A : Ab} (h : Sf a A) {s : ByteArray} (hs : s ≠ sOwn) (data : List Int) : Sf a (wrA A s data).1 := by
  unfold wrA
  split
  · split
    · exact h
    · exact h.chg hs (show (⟨#[]⟩ : ByteArray) ≠ sOwn by decide)
  · exact h
theorem Sf.move {a : List Int} {A : Ab} (h : Sf a A) {s t : ByteArray} (hs : s ≠ sOwn) (ht : t ≠ sOwn) : Sf a (mvA A s t).1 := by
  unfold mvA
  split
  · split
    · exact h
    · split
      · exact h.stp
      · exact h.chg hs ht
  · exact h
theorem Sf.drop {a : List Int} {A : Ab} (h : Sf a A) {s : ByteArray} (hs : s ≠ sOwn) : Sf a (drA A s).1 := by
  unfold drA
  split
  · split
    · exact h
    · exact h.chg hs (show (⟨#[]⟩ : ByteArray) ≠ sOwn by decide)
  · exact h
theorem Sf.crash {a : List Int} {A : Ab} (h : Sf a A) (hS : Srt A.safe) (keep torn : Int) : rdA (crA A keep torn) sOwn = (a, 0) := by
  have e : lk (crA A keep torn).now sOwn = some a := by
    show lk (acts A.safe (left A keep torn)) sOwn = some a
    rw [lk_acts_other _ hS (fun c hc => ?_), h.safe]
    obtain ⟨c', hc', e1, e2⟩ := mem_left hc
    rw [e1, e2]
    exact h.pend c' hc'
  unfold rdA
  rw [ready1 n_own rfl, if_pos rfl, e]
theorem On.srt {w0 w : World} {d m : Nat} {A : Ab} (h : On w0 w d m A) : Srt A.safe := by
  obtain ⟨σ, h1, _, _⟩ := h
  exact h1.ss

theorem own_ne {s : ByteArray} (h : ¬ s.toList = [111, 119, 110]) : s ≠ sOwn := by
  rintro rfl
  exact h (by rw [ByteArray.toList_eq]; rfl)
theorem own_neB {s : ByteArray} (h : (s.toList == [111, 119, 110]) = false) : s ≠ sOwn := own_ne (by simpa using h)
theorem RdO.fr {w w' : World} {A : Option Addr} {os : List OpV} (h : RdO w A os) (hf : Fr (fun _ => False) w w') : RdO w' A os := by
  have hc : ∀ p : Addr, p.block < w.heap.size → w'.cell? p = w.cell? p := fun p hp => World.cell?_of_block (hf.block p.block hp (fun h => h))
  rcases h with h | ⟨b, off, e, hb, h⟩
  · exact .inl h
  · refine .inr ⟨b, off, e, Nat.lt_of_lt_of_le hb hf.size, fun i o hi => ?_⟩
    obtain ⟨h1, h2⟩ := h i o hi
    exact ⟨⟨(hc _ hb).trans h1.c0, (hc _ hb).trans h1.c1, (hc _ hb).trans h1.c2, (hc _ hb).trans h1.c3, (hc _ hb).trans h1.c4, (hc _ hb).trans h1.c5⟩, h2.fr hf.size hc⟩

set_option maxRecDepth 100000 in
set_option maxHeartbeats 1000000 in
theorem diskSafe_law (a : List Int) (os : List OpV) (A O : Option Addr) (ca co : Nat) (keep torn : Int) (w : World) (ha : Rd w .u8 A a) (hO : RdO w O os) (hA : A = none → ca = 0) (hca : a.length ≤ maxLen) (hco : os.length ≤ maxLen) :
    Calls Try.prog 5 #[.slice A a.length ca, .slice O os.length co, .int .i64 keep, .int .i64 torn] w fun e w' => e = .returned (.bool true) ∧ Fr (fun _ => False) w w' := by
  unfold maxLen at hca hco
  go_enter Try.func5, Try.ntmps5
  go_wp2_with fail
  refine (head4_any w).mono ?_
  rintro e w1 ⟨rfl, hf1⟩
  by_cases hla : (300 : Int) < (a.length : Int)
  · have hd : decide ((300 : Int) < (a.length : Int)) = true := by simpa using hla
    go_wp2
    go_ret
    exact ⟨rfl, hf1⟩
  have hd : decide ((300 : Int) < (a.length : Int)) = false := by simpa using hla
  go_wp2_with fail
  refine (New_on w1 1048576).mono ?_
  rw [pl_new]
  rintro e w2 ⟨rfl, h2⟩
  go_wp2_with fail
  refine (Write_on h2 sOwn A ca a (by decide) ((ha.fr hf1).fr h2.fr) hA (by omega)).mono ?_
  rw [pl_write n_own (by simp [used]; omega)]
  rintro e w3 ⟨rfl, h3⟩
  go_wp2_with fail
  refine (Sync_on h3 (by omega)).mono ?_
  rw [pl_sync]
  rintro e w4 ⟨rfl, h4⟩
  have hS0 : Sf a (pl (act [] ⟨0, sOwn, ⟨#[]⟩, a⟩) (act [] ⟨0, sOwn, ⟨#[]⟩, a⟩) [] (0 + 1 + 1)) := ⟨rfl, rfl, by simp [pl, act, put, lk, bl_irr], fun c hc => by cases hc⟩
  have h40 : ∃ A', On w1 w4 w1.heap.size (0 + 2) A' ∧ Sf a A' := ⟨_, h4, hS0⟩
  clear h2 h3 h4 hS0
  have HO := Lib.hid hO
  clear hO
  go_wp2_with fail
  go_loopw [10] (fun iv wr => ∃ i : Nat, i ≤ 20 ∧ iv = .int .i64 i ∧ ∃ A', On w1 wr w1.heap.size (i + 2) A' ∧ Sf a A') (fun iv _ => 20 - (intOf iv).toNat)
  case atStart => exact ⟨0, by omega, rfl, h40⟩
  case round =>
    obtain ⟨i, hi, rfl, A', hOn, hSf⟩ := hrel
    clear h40
    by_cases hlt : (i : Int) < (os.length : Int)
    · by_cases h20 : (i : Int) < 20
      · have hO1 := (HO.out.fr hf1).fr hOn.fr
        obtain ⟨o, ho⟩ : ∃ o, os[i]? = some o := ⟨_, List.getElem?_eq_getElem (by omega)⟩
        rcases hO1 with hn | ⟨b, off, rfl, hb, hat⟩
        · subst hn; simp at ho
        obtain ⟨hat, hok⟩ := hat i o ho
        obtain ⟨x0, x1, x2, x3, x4, x5⟩ := hat
        have hl1 : decide ((i : Int) < (os.length : Int)) = true := by simpa using hlt
        have hl2 : decide ((i : Int) < 20) = true := by simpa using h20
        have hok' := hok.fr (w' := wr.alloc (.cells #[.int .i64 o.k, .string o.s, .string o.t, .slice o.A o.b.length o.c, .int .i64 o.n, .int .i64 o.torn] 30)) (Fr.alloc wr _ (fun _ => False)).size (fun p hp => World.cell?_of_block ((Fr.alloc wr _ (fun _ => False)).block p.block hp (fun h => h)))
        have hOn' := hOn.keep (Fr.alloc wr (.cells #[.int .i64 o.k, .string o.s, .string o.t, .slice o.A o.b.length o.c, .int .i64 o.n, .int .i64 o.torn] 30) _)
        have kW := Lib.hid (Write_on hOn' o.s o.A o.c o.b hok.ss hok'.rd hok.nl (by omega))
        have kM := Lib.hid (Move_on hOn' o.s o.t hok.ss hok.ts (by omega))
        have kD := Lib.hid (Drop_on hOn' o.s hok.ss (by omega))
        clear hat HO
        cases hto : (o.t.toList == [111, 119, 110])
        all_goals
          go_wp2_with (first
            | (go_at_call 15; refine kW.out.mono ?_; rintro e w5 ⟨rfl, h5⟩)
            | (go_at_call 16; refine kM.out.mono ?_; rintro e w5 ⟨rfl, h5⟩)
            | (go_at_call 17; refine kD.out.mono ?_; rintro e w5 ⟨rfl, h5⟩))
          all_goals refine ⟨⟨i + 1, by omega, by go_num, ?_⟩, by simp [intOf]; omega⟩
          all_goals first
            | exact ⟨_, hOn'.more, hSf⟩
            | exact ⟨_, h5, hSf.write (own_ne (by assumption)) _⟩
            | exact ⟨_, h5, hSf.drop (own_ne (by assumption))⟩
            | exact ⟨_, h5, hSf.move (own_ne (s := o.s) (by assumption)) (own_neB hto)⟩
      · have hl1 : decide ((i : Int) < (os.length : Int)) = true := by simpa using hlt
        have hl2 : decide ((i : Int) < 20) = false := by simpa using h20
        go_wp2_with fail
        refine (Crash_on hOn keep torn (by omega)).mono ?_
        rintro e w5 ⟨rfl, h5⟩
        go_wp2_with fail
        refine (Read_on h5 sOwn (by decide)).mono ?_
        rw [hSf.crash hOn.srt keep torn]
        rintro e w6 ⟨X, cx, rfl, hr, _, h6, _⟩
        have kx := conv_rdb hr
        have kb := conv_rd4 (cap := ca) ((ha.fr hf1).fr h6.fr)
        have ts := str_self (strOfNums a)
        have hfr := hf1.trans h6.fr
        clear h5 h6 hr hOn HO
        go_wp2
        go_ret
        exact ⟨rfl, hfr⟩
    · have hl1 : decide ((i : Int) < (os.length : Int)) = false := by simpa using hlt
      go_wp2_with fail
      refine (Crash_on hOn keep torn (by omega)).mono ?_
      rintro e w5 ⟨rfl, h5⟩
      go_wp2_with fail
      refine (Read_on h5 sOwn (by decide)).mono ?_
      rw [hSf.crash hOn.srt keep torn]
      rintro e w6 ⟨X, cx, rfl, hr, _, h6, _⟩
      have kx := conv_rdb hr
      have kb := conv_rd4 (cap := ca) ((ha.fr hf1).fr h6.fr)
      have ts := str_self (strOfNums a)
      have hfr := hf1.trans h6.fr
      clear h5 h6 hr hOn HO
      go_wp2
      go_ret
      exact ⟨rfl, hfr⟩

end Go.Proofs.Ytpljmoiemmaecaa
