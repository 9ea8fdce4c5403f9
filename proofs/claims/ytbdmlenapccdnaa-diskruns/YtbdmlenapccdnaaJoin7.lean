/- Names, by the library's contracts of maps.Keys and slices.Sorted. Several disks beside each other, and blocks that are none of theirs. What the laws of the disk share: plain disks, rows of operations, names. The law's list of files: find, read, used. -/
import Derived.Test.YtbdmlenapccdnaaShelf
import Derived.Test.YtbdmlenapccdnaaJoin5
import Derived.Sort.KeysCollected
import Derived.TacticsInMore
import Derived.Sort.Walk0
import Derived.Deep.QuietTactic
import Derived.BigQuiet
namespace Go.Proofs.Ytbdmlenapccdnaa
open Go.RowKit Go.Maps Go.Sort Go.Shelf

theorem sorts_in (m : Nat) : AnyZ.SortsIn Try.prog Try.sorted44_ren Fence.wide m :=
  ⟨fun blk off cap ss W hH hblk hsz => callsIn_wide.2 (AnyM.slices_Sort_string Try.sort56 blk off cap ss W hH hblk hsz), fun p cap W => callsIn_wide.2 (AnyM.slices_Sort_string_none Try.sort56 p cap W)⟩
/-- maps.Keys: a function value over one new block that holds the map -/
theorem keys_call (mb : Option Nat) (W : World) : CallsIn Fence.wide 5 Try.prog 45 #[.map mb] W fun e w' => e = .returned (.func (.func 57) #[] #[.pointer (some ⟨W.heap.size, 0, none⟩)]) ∧ w' = W.alloc (.cells #[.map mb] 70) :=
  AnyZ.keys_in Try.keys45 Fence.wide 5 trivial rfl mb W
/-- what slices.Sorted leaves of it -/
def SortedPost (w0 : World) (Pss : List (List UInt8) → Prop) (e : Ending) (w' : World) : Prop :=
  ∃ (v : Value) (ss : List (List UInt8)), e = .returned v ∧ Pss ss ∧ w'.ownsRow w0.heap.size 9 1 v ss.length ((ss.mergeSort (fun x y => decide (x ≤ y))).map encStr) ∧ (v = .slice none 0 0 ↔ ss = []) ∧ Below w0.heap.size w0 w'

set_option maxHeartbeats 1000000 in
theorem sorted_some (b nn : Nat) (D0 : DataW Unit) (w : World) (hown : w.ownsMap Try.prog 9 sv b nn D0) (hmax : Maps.size D0 ≤ maxLen) (hbytes : Maps.size D0 * 16 ≤ 140737488355328) :
    CallsIn Fence.wide 5 Try.prog 44 #[.func (.func 57) #[] #[.pointer (some ⟨w.heap.size, 0, none⟩)]] (w.alloc (.cells #[.map (some b)] 70)) (SortedPost (w.alloc (.cells #[.map (some b)] 70)) fun ss => ss.Perm (strKeys D0)) := by
  have hbl := hown.lt
  have hseq : SeqGives Fence.wide 2 Try.prog 57 #[.pointer (some ⟨w.heap.size, 0, none⟩)] encStr (fun ss => ss.Perm (strKeys D0)) (Maps.size D0) (w.alloc (.cells #[.map (some b)] 70)) :=
    AnyZ.keys_gives (ρ := Try.keys45_ren) { Try.keys45 with } Fence.wide _ trivial rfl (by omega) w.heap.size b nn D0 _ (by simp) (by simp) (by
      obtain ⟨es, clock, hb, Ft, hs, hD⟩ := hown
      exact ⟨es, clock, (Below.heap_alloc _ _ b hbl).trans hb, Ft, hs, hD⟩)
  exact AnyZ.sorted_in Try.sorted44 Fence.wide 5 trivial trivial trivial trivial rfl (by omega) (sorts_in _) (enters_of Try.func56 (by kernel_rfl) rfl) 57 #[.pointer (some ⟨w.heap.size, 0, none⟩)] trivial (enters_of Try.func57 (by kernel_rfl) rfl) _ _ hmax hbytes _ hseq

set_option maxHeartbeats 1000000 in
theorem sorted_none (w : World) :
    CallsIn Fence.wide 5 Try.prog 44 #[.func (.func 57) #[] #[.pointer (some ⟨w.heap.size, 0, none⟩)]] (w.alloc (.cells #[.map none] 70)) (SortedPost (w.alloc (.cells #[.map none] 70)) fun ss => ss = []) := by
  have hseq : SeqGives Fence.wide 2 Try.prog 57 #[.pointer (some ⟨w.heap.size, 0, none⟩)] encStr (fun ss : List (List UInt8) => ss = []) 0 (w.alloc (.cells #[.map none] 70)) :=
    AnyZ.keys_gives_nil (ρ := Try.keys45_ren) { Try.keys45 with } Fence.wide _ trivial rfl w.heap.size _ (by simp) (by simp)
  exact AnyZ.sorted_in Try.sorted44 Fence.wide 5 trivial trivial trivial trivial rfl (by omega) (sorts_in _) (enters_of Try.func56 (by kernel_rfl) rfl) 57 #[.pointer (some ⟨w.heap.size, 0, none⟩)] trivial (enters_of Try.func57 (by kernel_rfl) rfl) _ 0 (Nat.zero_le _) (by omega) _ hseq

/-- the names of files in order -/
def nms (L : Fl) : List (List UInt8) := L.map fun p => p.1.data.toList
theorem nms_enc (L : Fl) : (nms L).map encStr = L.map fun p => Value.string p.1 := by
  unfold nms
  rw [List.map_map]
  rfl
theorem nms_sorted {L : Fl} (h : Srt L) : (nms L).mergeSort (fun x y => decide (x ≤ y)) = nms L := by
  apply List.mergeSort_of_pairwise
  refine (List.pairwise_map.2 (h.imp (fun hab => ?_)))
  simp only [decide_eq_true_eq]
  exact List.le_of_lt hab
theorem nms_nodup {L : Fl} (h : Srt L) : (nms L).Nodup := by
  refine List.pairwise_map.2 (List.Pairwise.imp (fun {a b} hab => ?_) h)
  intro e
  unfold bl at hab
  rw [e] at hab
  exact List.lt_irrefl _ hab
theorem lk_isSome {L : Fl} (h : Srt L) (x : List UInt8) : x ∈ nms L ↔ (lk L ⟨x.toArray⟩).isSome = true := by
  unfold nms
  constructor
  · intro hx
    obtain ⟨p, hp, rfl⟩ := List.mem_map.1 hx
    have := mem_lk h (x := p.1) (c := p.2) hp
    simp [this]
  · intro hx
    obtain ⟨c, hc⟩ := Option.isSome_iff_exists.1 hx
    exact List.mem_map.2 ⟨_, lk_mem hc, by simp⟩

theorem Names_off {w : World} {d m : Nat} {A : Ab} {σ : Dv} (h : Gd w d m A σ) (ho : A.off = true) : Calls Try.prog 25 #[.pointer (some ⟨d, 0, none⟩)] w fun e w' => e = .returned (.slice none 0 0) ∧ w = w' := by
  have c8 := (h.inv.cel.cell 8).trans dc8
  rw [h.off, ho] at c8
  go_enter Try.func25, Try.ntmps25
  go_wp2
  go_ret
  exact ⟨rfl, rfl⟩

/-- what Names answers: a new row of the names, in order -/
def NamesPost (w : World) (A : Ab) (e : Ending) (w' : World) : Prop :=
  ∃ v, e = .returned v ∧ w'.ownsRow w.heap.size 9 1 v A.now.length (A.now.map fun p => Value.string p.1) ∧ Fr (fun _ => False) w w'

theorem sorted_done {w w' : World} {A : Ab} (hS : Srt A.now) (o : Obj) {e : Ending} {Pss : List (List UInt8) → Prop} (hP : ∀ ss, Pss ss → ss.Perm (nms A.now)) (h : SortedPost (w.alloc o) Pss e w') : NamesPost w A e w' := by
  obtain ⟨v, ss, rfl, hp, hrow, _, hb⟩ := h
  have hp := hP ss hp
  have hl : ss.length = A.now.length := by rw [hp.length_eq]; unfold nms; simp
  have hm := mergeSort_of_perm hp
  unfold leB at hm
  rw [hm, nms_sorted hS, nms_enc, hl] at hrow
  refine ⟨v, rfl, ownsRow_base_a hrow (by simp), (Fr.alloc w o _).trans ⟨hb.os, hb.tape, hb.output, hb.size, fun k hk _ => hb.block k hk⟩⟩

set_option maxHeartbeats 1000000 in
theorem Names_gd {w : World} {d m : Nat} {A : Ab} {σ : Dv} (h : Gd w d m A σ) (ho : A.off = false) (hm : m ≤ 2000) : Calls Try.prog 25 #[.pointer (some ⟨d, 0, none⟩)] w (NamesPost w A) := by
  have c8 := (h.inv.cel.cell 8).trans dc8
  rw [h.off, ho] at c8
  have c0 := (h.inv.cel.cell 0).trans dc0
  have hSn := h.sn
  have hnn := h.nn
  rcases h.inv.fn with ⟨hmn, hV⟩ | ⟨b, hmn, D0, hown, hD⟩
  · rw [hmn] at c0
    have hnil : A.now = [] := by
      refine Srt.ext hSn List.Pairwise.nil (fun x => ?_)
      have := congrFun hV x
      unfold vnow at this
      rw [← h.now x]
      cases hS : σ.S (.now x) with
      | none => rfl
      | some y => rw [hS] at this; cases this
    have KC := Lib.hid (fun W => callsIn_wide.1 (keys_call none W))
    have SC := Lib.hid (callsIn_wide.1 (sorted_none w))
    go_enter Try.func25, Try.ntmps25
    go_wp2_with (first
      | (go_at_call 45; refine (KC.out _).mono ?_; rintro e w' ⟨rfl, rfl⟩))
    refine SC.out.mono ?_
    intro e w' hP
    have hN := sorted_done (A := A) hSn _ (fun ss (e : ss = []) => by rw [e, hnil]; exact List.Perm.nil) hP
    obtain ⟨v, rfl, hrow, hf⟩ := hN
    go_wp2
    go_ret
    exact ⟨v, rfl, hrow, hf⟩
  · rw [hmn] at c0
    have hsz : Maps.size D0 ≤ σ.nn := hown.size_le
    have hperm : (nms A.now).Perm (strKeys D0) := by
      refine Collected.perm (left := fun _ => false) ⟨nms_nodup hSn, fun x => ?_⟩ hown K Try.underlying9 (fun _ => rfl)
      have h1 := (hD ⟨x.toArray⟩).1
      rw [lk_isSome hSn]
      have h2 : ky ⟨x.toArray⟩ = .string x := by unfold ky; simp
      rw [h2] at h1
      rw [h1]
      unfold vnow
      rw [← h.now]
      simp
    have KC := Lib.hid (fun W => callsIn_wide.1 (keys_call (some b) W))
    have SC := Lib.hid (callsIn_wide.1 (sorted_some b σ.nn D0 w hown (by unfold maxLen; omega) (by omega)))
    go_enter Try.func25, Try.ntmps25
    go_wp2_with (first
      | (go_at_call 45; refine (KC.out _).mono ?_; rintro e w' ⟨rfl, rfl⟩))
    refine SC.out.mono ?_
    intro e w' hP
    have hN := sorted_done (A := A) hSn _ (fun ss (e : ss.Perm (strKeys D0)) => e.trans hperm.symm) hP
    obtain ⟨v, rfl, hrow, hf⟩ := hN
    go_wp2
    go_ret
    exact ⟨v, rfl, hrow, hf⟩

end Go.Proofs.Ytbdmlenapccdnaa
namespace Go.Proofs.Ytbdmlenapccdnaa
open Go.RowKit

theorem DInv.far {S : Nat → Prop} {w w' : World} {d B : Nat} {σ : Dv} (h : DInv w d B σ) (hf : Fr S w w') (hS : ∀ k, foot d σ k → ¬ S k) : DInv w' d B σ :=
  ⟨h.cel.of (hf.block d h.cel.lt (hS d (.inl rfl))), h.fn.fr hf (fun b e => hS b (.inr (.inl e))), h.fs.fr hf (fun b e => hS b (.inr (.inr (.inl e)))),
   h.fam.keep (fun p v l e => (h.fam.rd p v l e).fr hf (fun g eg => hS g (.inr (.inr (.inr (.inr ⟨p, v, l, e, eg⟩)))))), h.mm, own_fr h.row hf (fun g e => hS g (.inr (.inr (.inr (.inl e))))), h.pend, h.pend0⟩
theorem Gd.far {S : Nat → Prop} {w w' : World} {d m : Nat} {A : Ab} {σ : Dv} (h : Gd w d m A σ) (hf : Fr S w w') (hS : ∀ k, foot d σ k → ¬ S k) : Gd w' d m A σ :=
  ⟨h.inv.far hf hS, h.now, h.safe, h.cl, h.chs, h.un, h.us, h.room, h.fuse, h.steps, h.off, h.ss, h.ok, h.run, h.usf, h.rm, h.nn, h.ns, h.fz, h.st⟩
theorem Gd.le {w : World} {d m m' : Nat} {A : Ab} {σ : Dv} (h : Gd w d m A σ) (hm : m ≤ m') : Gd w d m' A σ :=
  ⟨h.inv, h.now, h.safe, h.cl, h.chs, h.un, h.us, h.room, h.fuse, h.steps, h.off, h.ss, h.ok, h.run, h.usf, h.rm, Nat.le_trans h.nn hm, Nat.le_trans h.ns hm, h.fz, ⟨h.st.1, by have := h.st.2; omega⟩⟩

/-- n disks made behind w0, apart from each other; none of them has a block of Q; nothing of w0 has turned -/
def Mny (w0 w : World) (Q : Nat → Prop) (n : Nat) (D : Nat → Nat) (m : Nat) (As : Nat → Ab) : Prop :=
  ∃ σ : Nat → Dv, (∀ i, i < n → Gd w (D i) m (As i) (σ i)) ∧ Fr (fun _ => False) w0 w ∧ (∀ i, i < n → ∀ k, foot (D i) (σ i) k → w0.heap.size ≤ k) ∧
    (∀ i j, i < n → j < n → i ≠ j → ∀ k, foot (D i) (σ i) k → ¬ foot (D j) (σ j) k) ∧ ∀ k, Q k → k < w.heap.size ∧ ∀ i, i < n → ¬ foot (D i) (σ i) k
section
variable {w0 w w' : World} {Q : Nat → Prop} {n : Nat} {D : Nat → Nat} {m : Nat} {As : Nat → Ab}
theorem Mny.fr (h : Mny w0 w Q n D m As) : Fr (fun _ => False) w0 w := h.choose_spec.2.1
theorem Mny.get (h : Mny w0 w Q n D m As) {i : Nat} (hi : i < n) : ∃ σ, Gd w (D i) m (As i) σ := ⟨_, h.choose_spec.1 i hi⟩
theorem Mny.lt (h : Mny w0 w Q n D m As) {k : Nat} (hk : Q k) : k < w.heap.size := (h.choose_spec.2.2.2.2 k hk).1
theorem Mny.keep (h : Mny w0 w Q n D m As) (hf : Fr (fun _ => False) w w') : Mny w0 w' Q n D m As := by
  obtain ⟨σ, h1, h2, h3, h4, h5⟩ := h
  exact ⟨σ, fun i hi => (h1 i hi).keep hf, h2.trans hf, h3, h4, fun k hk => ⟨Nat.lt_of_lt_of_le (h5 k hk).1 hf.size, (h5 k hk).2⟩⟩
theorem Mny.le (h : Mny w0 w Q n D m As) {m' : Nat} (hm : m ≤ m') : Mny w0 w Q n D m' As := by
  obtain ⟨σ, h1, h2, h3, h4, h5⟩ := h
  exact ⟨σ, fun i hi => (h1 i hi).le hm, h2, h3, h4, h5⟩
theorem Mny.sub (h : Mny w0 w Q n D m As) {Q' : Nat → Prop} (hQ : ∀ k, Q' k → Q k) : Mny w0 w Q' n D m As := by
  obtain ⟨σ, h1, h2, h3, h4, h5⟩ := h
  exact ⟨σ, h1, h2, h3, h4, fun k hk => h5 k (hQ k hk)⟩
/-- new blocks are none of theirs -/
theorem Mny.new (h : Mny w0 w Q n D m As) (hf : Fr (fun _ => False) w w') : Mny w0 w' (fun k => Q k ∨ (w.heap.size ≤ k ∧ k < w'.heap.size)) n D m As := by
  obtain ⟨σ, h1, h2, h3, h4, h5⟩ := h
  refine ⟨σ, fun i hi => (h1 i hi).keep hf, h2.trans hf, h3, h4, fun k hk => ?_⟩
  rcases hk with hk | ⟨hk, hk'⟩
  · exact ⟨Nat.lt_of_lt_of_le (h5 k hk).1 hf.size, (h5 k hk).2⟩
  · exact ⟨hk', fun i hi hf => by have := (h1 i hi).inv.foot_lt hf; omega⟩
/-- a block that is theirs by no disk may turn -/
theorem Mny.turn (h : Mny w0 w Q n D m As) {S : Nat → Prop} (hf : Fr S w w') (hS : ∀ k, S k → Q k) (hS0 : ∀ k, S k → w0.heap.size ≤ k) : Mny w0 w' Q n D m As := by
  obtain ⟨σ, h1, h2, h3, h4, h5⟩ := h
  exact ⟨σ, fun i hi => (h1 i hi).far hf (fun k hk hs => (h5 k (hS k hs)).2 i hi hk), h2.then hf (fun k hk => .inr (hS0 k hk)), h3, h4, fun k hk => ⟨Nat.lt_of_lt_of_le (h5 k hk).1 hf.size, (h5 k hk).2⟩⟩

theorem Mny.op (h : Mny w0 w Q n D m As) {i : Nat} (hi : i < n) {f : FuncId} {args : Array Value} {P : Ending → World → Prop} {A' : Ab} {m' : Nat} (hm : m ≤ m')
    (hc : ∀ σ, Gd w (D i) m (As i) σ → Calls Try.prog f args w fun e w' => P e w' ∧ ∃ σ', Gd w' (D i) m' A' σ' ∧ Thn w (D i) σ w' σ') :
    Calls Try.prog f args w fun e w' => P e w' ∧ Mny w0 w' Q n D m' (fun j => if j = i then A' else As j) ∧ ∀ k, Q k → w'.heap[k]? = w.heap[k]? := by
  obtain ⟨σ, h1, h2, h3, h4, h5⟩ := h
  refine (hc (σ i) (h1 i hi)).mono ?_
  rintro e w' ⟨hP, σ', hG, hT⟩
  have hsz := hT.fr.size
  refine ⟨hP, ⟨fun j => if j = i then σ' else σ j, fun j hj => ?_, h2.then hT.fr (fun k hk => .inr (h3 i hi k hk)), fun j hj k hk => ?_, fun j l hj hl hjl k hk hk' => ?_, fun k hk => ⟨Nat.lt_of_lt_of_le (h5 k hk).1 hsz, fun j hj hf => ?_⟩⟩, fun k hk => ?_⟩
  · by_cases e : j = i
    · subst e
      simp only [if_true]
      exact hG
    · simp only [if_neg e]
      exact ((h1 j hj).far hT.fr (fun k hk hk' => h4 j i hj hi e k hk hk')).le hm
  · by_cases e : j = i
    · subst e
      simp only [if_true] at hk
      rcases hT.ft k hk with hk | hk
      · exact h3 j hj k hk
      · exact Nat.le_trans h2.size hk
    · simp only [if_neg e] at hk
      exact h3 j hj k hk
  · by_cases e : j = i
    · subst e
      have el : ¬ l = j := fun e => hjl e.symm
      simp only [if_true] at hk
      simp only [if_neg el] at hk'
      rcases hT.ft k hk with hk | hk
      · exact h4 j l hj hl hjl k hk hk'
      · have := (h1 l hl).inv.foot_lt hk'
        omega
    · simp only [if_neg e] at hk
      by_cases el : l = i
      · subst el
        simp only [if_true] at hk'
        rcases hT.ft k hk' with hk' | hk'
        · exact h4 j l hj hl hjl k hk hk'
        · have := (h1 j hj).inv.foot_lt hk
          omega
      · simp only [if_neg el] at hk'
        exact h4 j l hj hl hjl k hk hk'
  · by_cases e : j = i
    · subst e
      simp only [if_true] at hf
      rcases hT.ft k hf with hf | hf
      · exact (h5 k hk).2 j hj hf
      · have := (h5 k hk).1
        omega
    · simp only [if_neg e] at hf
      exact (h5 k hk).2 j hj hf
  · exact hT.fr.block k (h5 k hk).1 (fun hf => (h5 k hk).2 i hi hf)

/-- one more disk -/
theorem New_many (h : Mny w0 w Q n D m As) (room : Int) : Calls Try.prog 8 #[.int .i64 room] w fun e w' => e = .returned (.pointer (some ⟨w.heap.size, 0, none⟩)) ∧ Mny w0 w' Q (n + 1) (fun i => if i = n then w.heap.size else D i) m (fun i => if i = n then newA room else As i) ∧ Fr (fun _ => False) w w' := by
  obtain ⟨σ, h1, h2, h3, h4, h5⟩ := h
  refine (New_gd w room).mono ?_
  rintro e w' ⟨rfl, σ', hG, hf, hft⟩
  refine ⟨rfl, ⟨fun i => if i = n then σ' else σ i, fun i hi => ?_, h2.trans hf, fun i hi k hk => ?_, fun i j hi hj hij k hk hk' => ?_, fun k hk => ⟨Nat.lt_of_lt_of_le (h5 k hk).1 hf.size, fun i hi hk' => ?_⟩⟩, hf⟩
  · by_cases e : i = n
    · simp only [if_pos e]
      exact hG.le (Nat.zero_le _)
    · simp only [if_neg e]
      exact (h1 i (by omega)).keep hf
  · by_cases e : i = n
    · simp only [if_pos e] at hk
      exact Nat.le_trans h2.size (hft k hk)
    · simp only [if_neg e] at hk
      exact h3 i (by omega) k hk
  · by_cases e : i = n
    · simp only [if_pos e] at hk
      by_cases e' : j = n
      · omega
      · simp only [if_neg e'] at hk'
        have h6 := hft k hk
        have h7 := (h1 j (by omega)).inv.foot_lt hk'
        omega
    · simp only [if_neg e] at hk
      by_cases e' : j = n
      · simp only [if_pos e'] at hk'
        have h6 := hft k hk'
        have h7 := (h1 i (by omega)).inv.foot_lt hk
        omega
      · simp only [if_neg e'] at hk'
        exact h4 i j (by omega) (by omega) hij k hk hk'
  · by_cases e : i = n
    · simp only [if_pos e] at hk'
      have h6 := hft k hk'
      have h7 := (h5 k hk).1
      omega
    · simp only [if_neg e] at hk'
      exact (h5 k hk).2 i (by omega) hk'
theorem Mny.none (w : World) (m : Nat) (D : Nat → Nat) (As : Nat → Ab) : Mny w w (fun _ => False) 0 D m As :=
  ⟨fun _ => fresh 0, fun i hi => by omega, Fr.refl _ _, fun i hi => by omega, fun i j hi => by omega, fun k hk => hk.elim⟩

theorem Write_many (h : Mny w0 w Q n D m As) {i : Nat} (hi : i < n) (s : ByteArray) (A0 : Option Addr) (cap0 : Nat) (data : List Int) (hsm : s.size ≤ maxLen) (hd : Rd w .u8 A0 data) (hA0 : A0 = none → cap0 = 0) (hm : m < 2000) :
    Calls Try.prog 13 #[.pointer (some ⟨D i, 0, none⟩), .string s, .slice A0 data.length cap0] w fun e w' => e = .returned (.int .i64 (wrA (As i) s data).2) ∧ Mny w0 w' Q n D (m + 1) (fun j => if j = i then (wrA (As i) s data).1 else As j) ∧ ∀ k, Q k → w'.heap[k]? = w.heap[k]? :=
  h.op hi (Nat.le_succ m) (fun _ hG => Write_gd hG s A0 cap0 data hsm hd hA0 hm)
theorem Move_many (h : Mny w0 w Q n D m As) {i : Nat} (hi : i < n) (s t : ByteArray) (hsm : s.size ≤ maxLen) (htm : t.size ≤ maxLen) (hm : m < 2000) :
    Calls Try.prog 14 #[.pointer (some ⟨D i, 0, none⟩), .string s, .string t] w fun e w' => e = .returned (.int .i64 (mvA (As i) s t).2) ∧ Mny w0 w' Q n D (m + 1) (fun j => if j = i then (mvA (As i) s t).1 else As j) ∧ ∀ k, Q k → w'.heap[k]? = w.heap[k]? :=
  h.op hi (Nat.le_succ m) (fun _ hG => Move_gd hG s t hsm htm hm)
theorem Drop_many (h : Mny w0 w Q n D m As) {i : Nat} (hi : i < n) (s : ByteArray) (hsm : s.size ≤ maxLen) (hm : m < 2000) :
    Calls Try.prog 15 #[.pointer (some ⟨D i, 0, none⟩), .string s] w fun e w' => e = .returned (.int .i64 (drA (As i) s).2) ∧ Mny w0 w' Q n D (m + 1) (fun j => if j = i then (drA (As i) s).1 else As j) ∧ ∀ k, Q k → w'.heap[k]? = w.heap[k]? :=
  h.op hi (Nat.le_succ m) (fun _ hG => Drop_gd hG s hsm hm)
theorem Sync_many (h : Mny w0 w Q n D m As) {i : Nat} (hi : i < n) (hm : m < 2000) :
    Calls Try.prog 16 #[.pointer (some ⟨D i, 0, none⟩)] w fun e w' => e = .returned (.int .i64 (syA (As i)).2) ∧ Mny w0 w' Q n D (m + 1) (fun j => if j = i then (syA (As i)).1 else As j) ∧ ∀ k, Q k → w'.heap[k]? = w.heap[k]? :=
  h.op hi (Nat.le_succ m) (fun _ hG => Sync_gd hG hm)
theorem Crash_many (h : Mny w0 w Q n D m As) {i : Nat} (hi : i < n) (keep torn : Int) (hm : m < 2000) :
    Calls Try.prog 20 #[.pointer (some ⟨D i, 0, none⟩), .int .i64 keep, .int .i64 torn] w fun e w' => e = .returned (.tuple #[]) ∧ Mny w0 w' Q n D m (fun j => if j = i then crA (As i) keep torn else As j) ∧ ∀ k, Q k → w'.heap[k]? = w.heap[k]? :=
  h.op hi (Nat.le_refl m) (fun _ hG => Crash_gd hG keep torn hm)
theorem Fuse_many (h : Mny w0 w Q n D m As) {i : Nat} (hi : i < n) (k : Int) (hk : k ≤ 9223372036854775807) :
    Calls Try.prog 19 #[.pointer (some ⟨D i, 0, none⟩), .int .i64 k] w fun e w' => e = .returned (.tuple #[]) ∧ Mny w0 w' Q n D m (fun j => if j = i then fuA (As i) k else As j) ∧ ∀ k, Q k → w'.heap[k]? = w.heap[k]? :=
  h.op hi (Nat.le_refl m) (fun _ hG => Fuse_gd hG k hk)
/-- a Read, its bytes as a slice that shows what it is -/
theorem Read_many (h : Mny w0 w Q n D m As) {i : Nat} (hi : i < n) (s : ByteArray) (hsm : s.size ≤ maxLen) :
    Calls Try.prog 17 #[.pointer (some ⟨D i, 0, none⟩), .string s] w fun e w' => ∃ B c, e = .returned (.tuple #[.slice B (rdA (As i) s).1.length c, .int .i64 (rdA (As i) s).2]) ∧ RdB w' (.slice B (rdA (As i) s).1.length c) (rdA (As i) s).1 ∧ (∀ g, (Value.slice B (rdA (As i) s).1.length c).ownBlock = some g → w.heap.size ≤ g) ∧ Fr (fun _ => False) w w' := by
  obtain ⟨σ, h1⟩ := h.get hi
  refine (Read_gd h1 s hsm).mono ?_
  rintro e w' ⟨u, rfl, hr, hfr, hf⟩
  obtain ⟨B, c, rfl, _, _, _⟩ := hr.form
  exact ⟨B, c, rfl, hr, hfr, hf⟩
theorem Names_many (h : Mny w0 w Q n D m As) {i : Nat} (hi : i < n) (ho : (As i).off = false) (hm : m ≤ 2000) : Calls Try.prog 25 #[.pointer (some ⟨D i, 0, none⟩)] w (NamesPost w (As i)) := by
  obtain ⟨σ, h1⟩ := h.get hi
  exact Names_gd h1 ho hm
end

end Go.Proofs.Ytbdmlenapccdnaa
namespace Go.Proofs.Ytbdmlenapccdnaa
open Go.RowKit Go.Maps

theorem ready1 {A : Ab} {s : ByteArray} (hn : Dx.name s = true) (ho : A.off = false) : readyR A.off [s] = 0 := by
  unfold readyR
  rw [ho]
  simp [hn]
theorem ready2 {A : Ab} {s t : ByteArray} (hn : Dx.name s = true) (ht : Dx.name t = true) (ho : A.off = false) : readyR A.off [s, t] = 0 := by
  unfold readyR
  rw [ho]
  simp [hn, ht]
/-- a plain disk without a fuse -/
def pl (now safe : Fl) (pend : List AC) (st : Int) : Ab := ⟨now, safe, pend, 1048576, 0, st, false⟩
theorem pl_new : newA 1048576 = pl [] [] [] 0 := rfl
theorem pl_write {now safe : Fl} {pend : List AC} {st : Int} {s : ByteArray} {data : List Int} (hn : Dx.name s = true) (hl : used now + data.length ≤ 1048576) :
    wrA (pl now safe pend st) s data = (pl (act now ⟨0, s, ⟨#[]⟩, data⟩) safe (pend ++ [⟨0, s, ⟨#[]⟩, data⟩]) (st + 1), 0) := by
  unfold wrA
  rw [ready1 hn rfl, if_pos rfl, if_neg (by simp only [pl]; omega)]
  rfl
theorem pl_sync {now safe : Fl} {pend : List AC} {st : Int} : syA (pl now safe pend st) = (pl now now [] (st + 1), 0) := rfl
theorem pl_move {now safe : Fl} {pend : List AC} {st : Int} {s t : ByteArray} (hn : Dx.name s = true) (ht : Dx.name t = true) (hst : s ≠ t) (hl : lk now s ≠ none) :
    mvA (pl now safe pend st) s t = (pl (act now ⟨1, s, t, []⟩) safe (pend ++ [⟨1, s, t, []⟩]) (st + 1), 0) := by
  unfold mvA
  rw [ready2 hn ht rfl, if_pos rfl, if_neg (show ¬ lk (pl now safe pend st).now s = none from hl), if_neg hst]
  rfl
def sOwn : ByteArray := ⟨#[111, 119, 110]⟩
theorem n_own : Dx.name sOwn = true := by decide
theorem lk_act_other {L : Fl} (h : Srt L) {c : AC} {x : ByteArray} (h1 : c.s ≠ x) (h2 : c.t ≠ x) : lk (act L c) x = lk L x := by
  unfold act
  split
  · rw [lk_put h, if_neg (fun e => h1 e.symm)]
  · split
    · rw [lk_put h.del, if_neg (fun e => h2 e.symm), lk_del h, if_neg (fun e => h1 e.symm)]
    · rw [lk_del h, if_neg (fun e => h1 e.symm)]
theorem lk_acts_other {x : ByteArray} : ∀ {L : Fl} (cs : List AC), Srt L → (∀ c ∈ cs, c.s ≠ x ∧ c.t ≠ x) → lk (acts L cs) x = lk L x
  | _, [], _, _ => rfl
  | L, c :: cs, h, hc => by
    have h1 := hc c (by simp)
    show lk (acts (act L c) cs) x = _
    rw [lk_acts_other cs (h.act c) (fun c' h' => hc c' (by simp [h'])), lk_act_other h h1.1 h1.2]
theorem mem_left {A : Ab} {keep torn : Int} {c : AC} (h : c ∈ left A keep torn) : ∃ c' ∈ A.pend, c.s = c'.s ∧ c.t = c'.t := by
  unfold left at h
  rcases List.mem_append.1 h with h | h
  · exact ⟨c, List.mem_of_mem_take h, rfl, rfl⟩
  · split at h
    · split at h
      · rename_i c' hc'
        split at h
        · simp at h
          subst h
          exact ⟨c', List.mem_of_getElem? hc', rfl, rfl⟩
        · cases h
      · cases h
    · cases h
theorem On.srt {w0 w : World} {d m : Nat} {A : Ab} (h : On w0 w d m A) : Srt A.safe := by
  obtain ⟨σ, h1, _, _⟩ := h
  exact h1.ss
theorem own_ne {s : ByteArray} (h : ¬ s.toList = [111, 119, 110]) : s ≠ sOwn := by
  rintro rfl
  exact h (by rw [ByteArray.toList_eq]; rfl)
theorem own_neB {s : ByteArray} (h : (s.toList == [111, 119, 110]) = false) : s ≠ sOwn := own_ne (by simpa using h)
theorem RdO.fr {w w' : World} {A : Option Addr} {os : List OpV} (h : RdO w A os) (hf : Fr (fun _ => False) w w') : RdO w' A os := by
  have hc : ∀ p : Addr, p.block < w.heap.size → w'.cell? p = w.cell? p := fun p hp => World.cell?_of_block (hf.block p.block hp (fun h => h))
  rcases h with h | ⟨b, off, e, hb, h⟩
  · exact .inl h
  · refine .inr ⟨b, off, e, Nat.lt_of_lt_of_le hb hf.size, fun i o hi => ?_⟩
    obtain ⟨h1, h2⟩ := h i o hi
    exact ⟨⟨(hc _ hb).trans h1.c0, (hc _ hb).trans h1.c1, (hc _ hb).trans h1.c2, (hc _ hb).trans h1.c3, (hc _ hb).trans h1.c4, (hc _ hb).trans h1.c5⟩, h2.fr hf.size hc⟩
theorem Mny.congr {w0 w : World} {Q : Nat → Prop} {n : Nat} {D D' : Nat → Nat} {m : Nat} {As As' : Nat → Ab} (h : Mny w0 w Q n D m As) (hD : ∀ i, i < n → D i = D' i) (hA : ∀ i, i < n → As i = As' i) : Mny w0 w Q n D' m As' := by
  obtain ⟨σ, h1, h2, h3, h4, h5⟩ := h
  refine ⟨σ, fun i hi => ?_, h2, fun i hi => ?_, fun i j hi hj => ?_, fun k hk => ⟨(h5 k hk).1, fun i hi => ?_⟩⟩
  · rw [← hD i hi, ← hA i hi]; exact h1 i hi
  · rw [← hD i hi]; exact h3 i hi
  · rw [← hD i hi, ← hD j hj]; exact h4 i j hi hj
  · rw [← hD i hi]; exact (h5 k hk).2 i hi
/-- one step of the law, plain -/
def stA (A : Ab) (o : OpV) : Ab :=
  if o.k = 0 then (wrA A o.s o.b).1 else if o.k = 1 then (mvA A o.s o.t).1 else if o.k = 2 then (drA A o.s).1 else if o.k = 3 then (syA A).1 else A
/-- a disk without a fuse -/
structure Qt (A : Ab) : Prop where
  off : A.off = false
  fuse : A.fuse = 0
theorem Qt.stp {A : Ab} (h : Qt A) : Qt (stpA A) := by
  have hf : ¬ A.fuse = 1 := by rw [h.fuse]; decide
  unfold stpA
  rw [if_neg hf]
  exact ⟨h.off, by show max (A.fuse - 1) 0 = 0; rw [h.fuse]; decide⟩
theorem Qt.chg {A : Ab} (h : Qt A) (c : AC) : Qt (chgA A c) := ⟨h.stp.off, h.stp.fuse⟩
theorem Qt.st {A : Ab} (h : Qt A) (o : OpV) : Qt (stA A o) := by
  unfold stA wrA mvA drA syA
  have hf : ¬ A.fuse = 1 := by rw [h.fuse]; decide
  have ho : ¬ A.off = true := by rw [h.off]; decide
  repeat' split
  all_goals first
    | exact h
    | exact h.stp
    | exact h.chg _
    | (exfalso; contradiction)
    | exact ⟨h.stp.off, h.stp.fuse⟩
theorem cr_sync {A : Ab} (h : Qt A) (torn : Int) : crA (syA A).1 0 torn = (syA A).1 := by
  have hf : ¬ A.fuse = 1 := by rw [h.fuse]; decide
  have ho : ¬ A.off = true := by rw [h.off]; decide
  have hs := h.stp
  obtain ⟨s1, s2, s3, s4⟩ := stpA_rest A
  unfold syA
  rw [if_neg ho, if_neg hf]
  simp only
  unfold crA left kept
  simp [acts, hs.off, hs.fuse, s1]
def opCells (o : OpV) : Array Value := #[.int .i64 o.k, .string o.s, .string o.t, .slice o.A o.b.length o.c, .int .i64 o.n, .int .i64 o.torn]
def pCells (a b c : Nat) : Array Value := #[.pointer (some ⟨a, 0, none⟩), .pointer (some ⟨b, 0, none⟩), .pointer (some ⟨c, 0, none⟩)]
theorem stA_0 {A : Ab} {o : OpV} (h0 : (o.k == 0) = true) : stA A o = (wrA A o.s o.b).1 := by
  have : o.k = 0 := by simpa using h0
  simp [stA, this]
theorem stA_1 {A : Ab} {o : OpV} (h1 : (o.k == 1) = true) : stA A o = (mvA A o.s o.t).1 := by
  have : o.k = 1 := by simpa using h1
  simp [stA, this]
theorem stA_2 {A : Ab} {o : OpV} (h1 : (o.k == 2) = true) : stA A o = (drA A o.s).1 := by
  have : o.k = 2 := by simpa using h1
  simp [stA, this]
theorem stA_3 {A : Ab} {o : OpV} (h1 : (o.k == 3) = true) : stA A o = (syA A).1 := by
  have : o.k = 3 := by simpa using h1
  simp [stA, this]
theorem stA_4 {A : Ab} {o : OpV} (h0 : (o.k == 0) = false) (h1 : (o.k == 1) = false) (h2 : (o.k == 2) = false) (h3 : (o.k == 3) = false) : stA A o = A := by
  simp at h0 h1 h2 h3
  simp [stA, h0, h1, h2, h3]
theorem RdO.ok {w : World} {A : Option Addr} {os : List OpV} (h : RdO w A os) {i : Nat} {o : OpV} (ho : os[i]? = some o) : OpOk w o := by
  rcases h with rfl | ⟨b, off, _, _, h⟩
  · simp at ho
  · exact (h i o ho).2
/-- a row of names -/
def RdNm (w : World) (X : Option Addr) (L : Fl) : Prop := L = [] ∨ ∃ g, X = some ⟨g, 0, none⟩ ∧ g < w.heap.size ∧ ∀ i p, L[i]? = some p → w.cell? ⟨g, i, none⟩ = some (.string p.1)
theorem RdNm.fr {w w' : World} {X : Option Addr} {L : Fl} (h : RdNm w X L) (hf : Fr (fun _ => False) w w') : RdNm w' X L := by
  rcases h with h | ⟨g, e, hg, h⟩
  · exact .inl h
  · exact .inr ⟨g, e, Nat.lt_of_lt_of_le hg hf.size, fun i p hi => (World.cell?_of_block (hf.block g hg (fun h => h))).trans (h i p hi)⟩
theorem own_names {w : World} {base : Nat} {v : Value} {L : Fl} (h : w.ownsRow base 9 1 v L.length (L.map fun p => Value.string p.1)) : ∃ X c, v = .slice X L.length c ∧ RdNm w X L ∧ (∀ g, v.ownBlock = some g → base ≤ g) := by
  have hh := h
  rcases h.2 with ⟨rfl, hn⟩ | ⟨g, cap, cur, rfl, hge, hg, hnc, _⟩
  · have hx : L = [] := List.eq_nil_of_length_eq_zero hn
    subst hx
    exact ⟨none, 0, rfl, .inl rfl, fun g e => by cases e⟩
  · refine ⟨some ⟨g, 0, none⟩, cap, rfl, .inr ⟨g, rfl, (Array.getElem?_eq_some_iff.1 hg).1, fun i p hi => ?_⟩, fun g' e => by cases e; exact hge⟩
    have hil := (List.getElem?_eq_some_iff.1 hi).1
    rw [hh.cellAt i (by omega), List.getElem?_map, hi]
    rfl
/-- all changes stay: nothing has turned; none stays: what is safe -/
theorem Gd.all {w : World} {d m : Nat} {A : Ab} {σ : Dv} (h : Gd w d m A σ) (hm : m ≤ 2000) (torn : Int) : (crA A 1073741824 torn).now = A.now := by
  have h1 := h.ns
  have h2 := h.cl
  have hk : kept A 1073741824 = A.pend.length := by unfold kept; omega
  show acts A.safe (left A 1073741824 torn) = A.now
  have hl : left A 1073741824 torn = A.pend := by
    unfold left
    rw [hk, List.take_length, List.getElem?_eq_none (Nat.le_refl _)]
    simp
  rw [hl, h.run]
theorem cr_zero (A : Ab) : (crA A 0 0).now = A.safe := by
  show acts A.safe (left A 0 0) = A.safe
  have hk : kept A 0 = 0 := by unfold kept; omega
  unfold left
  rw [hk]
  simp [acts]
/-- what is read hangs on the files alone -/
theorem rd_same {A B : Ab} (h : A.now = B.now) (h1 : A.off = B.off) (s : ByteArray) : rdA A s = rdA B s := by unfold rdA; rw [h, h1]
theorem Names_manyL {w0 w : World} {Q : Nat → Prop} {n : Nat} {D : Nat → Nat} {m : Nat} {As : Nat → Ab} (h : Mny w0 w Q n D m As) {i : Nat} (hi : i < n) (ho : (As i).off = false) (hm : m ≤ 2000) (L : Fl) (hL : (As i).now = L) :
    Calls Try.prog 25 #[.pointer (some ⟨D i, 0, none⟩)] w fun e w' => ∃ X c, e = .returned (.slice X L.length c) ∧ RdNm w' X L ∧ Fr (fun _ => False) w w' := by
  refine (Names_many h hi ho hm).mono ?_
  rintro e w' ⟨v, rfl, hr, hf⟩
  rw [hL] at hr
  obtain ⟨X, c, rfl, hX, _⟩ := own_names hr
  exact ⟨X, c, rfl, hX, hf⟩
theorem Read_manyL {w0 w : World} {Q : Nat → Prop} {n : Nat} {D : Nat → Nat} {m : Nat} {As : Nat → Ab} (h : Mny w0 w Q n D m As) {i : Nat} (hi : i < n) (s : ByteArray) (hsm : s.size ≤ maxLen) (r : List Int × Int) (hr : rdA (As i) s = r) :
    Calls Try.prog 17 #[.pointer (some ⟨D i, 0, none⟩), .string s] w fun e w' => ∃ B c, e = .returned (.tuple #[.slice B r.1.length c, .int .i64 r.2]) ∧ RdB w' (.slice B r.1.length c) r.1 ∧ Fr (fun _ => False) w w' := by
  refine (Read_many h hi s hsm).mono ?_
  rw [hr]
  rintro e w' ⟨B, c, rfl, h1, _, h2⟩
  exact ⟨B, c, rfl, h1, h2⟩
theorem Used_many {w0 w : World} {Q : Nat → Prop} {n : Nat} {D : Nat → Nat} {m : Nat} {As : Nat → Ab} (h : Mny w0 w Q n D m As) {i : Nat} (hi : i < n) (L : Fl) (hL : (As i).now = L) :
    Calls Try.prog 23 #[.pointer (some ⟨D i, 0, none⟩)] w fun e w' => e = .returned (.int .i64 (used L)) ∧ w = w' := by
  obtain ⟨σ, h1⟩ := h.get hi
  rw [← hL]
  exact Used_gd h1
theorem Gd.keys {w : World} {d m : Nat} {A : Ab} {σ : Dv} (h : Gd w d m A σ) {D0 : DataW Unit} {b : Nat} (hown : w.ownsMap Try.prog 9 sv b σ.nn D0) (hD : ∀ s : ByteArray, has D0 (ky s) = (vnow σ.S s).isSome ∧ D0.atKey (ky s) (sd nilS) = sd ((vnow σ.S s).getD nilS) ∧ isS ((vnow σ.S s).getD nilS) = true) : (nms A.now).Perm (strKeys D0) := by
  refine Collected.perm (left := fun _ => false) ⟨nms_nodup h.sn, fun x => ?_⟩ hown K Try.underlying9 (fun _ => rfl)
  have h1 := (hD ⟨x.toArray⟩).1
  rw [lk_isSome h.sn]
  have h2 : ky ⟨x.toArray⟩ = .string x := by unfold ky; simp
  rw [h2] at h1
  rw [h1]
  unfold vnow
  rw [← h.now]
  simp
theorem Gd.nameLe {w : World} {d m : Nat} {A : Ab} {σ : Dv} (h : Gd w d m A σ) {p : ByteArray × List Int} (hp : p ∈ A.now) : p.1.size ≤ maxLen := by
  have hl := mem_lk h.sn (x := p.1) (c := p.2) hp
  obtain ⟨v, hv⟩ := h.someN hl
  rcases h.inv.fn with ⟨_, hV⟩ | ⟨b, _, D0, hown, hD⟩
  · have := congrFun hV p.1
    unfold vnow at this
    rw [hv] at this
    cases this
  · have := strKeys_le hown Try.underlying9 _ ((h.keys hown hD).mem_iff.1 (List.mem_map.2 ⟨p, hp, rfl⟩))
    simpa using this
theorem Gd.lenN {w : World} {d m : Nat} {A : Ab} {σ : Dv} (h : Gd w d m A σ) : A.now.length ≤ m := by
  cases hn : A.now with
  | nil => simp
  | cons p L =>
    have hp : p ∈ A.now := by rw [hn]; exact List.mem_cons_self
    have hl := mem_lk h.sn (x := p.1) (c := p.2) hp
    obtain ⟨v, hv⟩ := h.someN hl
    rcases h.inv.fn with ⟨_, hV⟩ | ⟨b, _, D0, hown, hD⟩
    · have := congrFun hV p.1
      unfold vnow at this
      rw [hv] at this
      cases this
    · have h1 := (h.keys hown hD).length_eq
      have h2 := hown.size_le
      have h3 := h.nn
      have h4 : (strKeys D0).length = Maps.size D0 := by
        obtain ⟨es, rfl, _⟩ := hown.keysOf
        simp [strKeys, Maps.size]
      have h5 : (nms A.now).length = A.now.length := by unfold nms; simp
      rw [← hn]
      omega
theorem Mny.lenN {w0 w : World} {Q : Nat → Prop} {n : Nat} {D : Nat → Nat} {m : Nat} {As : Nat → Ab} (h : Mny w0 w Q n D m As) {i : Nat} (hi : i < n) {L : Fl} (hL : (As i).now = L) : L.length ≤ m := by
  obtain ⟨σ, h1⟩ := h.get hi
  rw [← hL]
  exact h1.lenN
theorem Mny.nameLe {w0 w : World} {Q : Nat → Prop} {n : Nat} {D : Nat → Nat} {m : Nat} {As : Nat → Ab} (h : Mny w0 w Q n D m As) {i : Nat} (hi : i < n) {L : Fl} (hL : (As i).now = L) {j : Nat} {p : ByteArray × List Int} (hp : L[j]? = some p) : p.1.size ≤ maxLen := by
  obtain ⟨σ, h1⟩ := h.get hi
  exact h1.nameLe (by rw [hL]; exact List.mem_of_getElem? hp)
theorem RdNm.at {w : World} {X : Option Addr} {L : Fl} (h : RdNm w X L) {j : Nat} {p : ByteArray × List Int} (hp : L[j]? = some p) : ∃ g, X = some ⟨g, 0, none⟩ ∧ w.cell? ⟨g, j, none⟩ = some (.string p.1) := by
  rcases h with rfl | ⟨g, e, _, h⟩
  · simp at hp
  · exact ⟨g, e, h j p hp⟩
theorem meas {j n : Nat} (h : j < n) : n - (intOf (.int .i64 ((j : Int) + 1))).toNat < n - (intOf (.int .i64 (j : Int))).toNat := by
  simp [intOf]
  omega

end Go.Proofs.Ytbdmlenapccdnaa
namespace Go.Proofs.Ytbdmlenapccdnaa
open Go.RowKit

def idx : Fl → ByteArray → Nat
  | [], _ => 0
  | (y, _) :: L, x => if bl y x then idx L x + 1 else 0
theorem idx_le : ∀ (L : Fl) (x : ByteArray), idx L x ≤ L.length
  | [], _ => by simp [idx]
  | (y, c) :: L, x => by
    have := idx_le L x
    simp only [idx]
    split
    · simp only [List.length_cons]; omega
    · simp
theorem idx_lt : ∀ {L : Fl} {x : ByteArray} {i : Nat}, i < idx L x → ∃ p, L[i]? = some p ∧ bl p.1 x
  | [], _, _, h => by simp [idx] at h
  | (y, c) :: L, x, i, h => by
    simp only [idx] at h
    split at h
    · rename_i hb
      cases i with
      | zero => exact ⟨_, rfl, hb⟩
      | succ i => exact idx_lt (L := L) (by omega)
    · omega
theorem idx_at : ∀ {L : Fl} {x : ByteArray} {p : ByteArray × List Int}, L[idx L x]? = some p → ¬ bl p.1 x
  | [], _, _, h => by simp at h
  | (y, c) :: L, x, p, h => by
    simp only [idx] at h
    split at h
    · exact idx_at (L := L) (by simpa using h)
    · rename_i hb
      simp at h
      subst h
      exact hb
theorem lk_idx : ∀ (L : Fl) (x : ByteArray), lk L x = match L[idx L x]? with
    | some p => if p.1 = x then some p.2 else none
    | none => none
  | [], _ => rfl
  | (y, c) :: L, x => by
    have := lk_idx L x
    simp only [lk, idx]
    split
    · rw [this]; simp
    · simp
theorem put_idx : ∀ (L : Fl) (x : ByteArray) (b : List Int), put L x b = L.take (idx L x) ++ (x, b) :: L.drop (if (lk L x).isSome then idx L x + 1 else idx L x)
  | [], x, b => by simp [put, idx, lk]
  | (y, c) :: L, x, b => by
    have := put_idx L x b
    simp only [put, idx, lk]
    split
    · rw [this]
      simp only [List.take_succ_cons, List.cons_append]
      split <;> simp
    · split
      · simp
      · simp
theorem del_idx : ∀ (L : Fl) (x : ByteArray), (lk L x).isSome = true → del L x = L.take (idx L x) ++ L.drop (idx L x + 1)
  | [], x, h => by simp [lk] at h
  | (y, c) :: L, x, h => by
    simp only [lk] at h
    simp only [del, idx]
    split at h
    · rename_i hb
      rw [if_pos hb, if_pos hb, del_idx L x h]
      simp
    · rename_i hb
      rw [if_neg hb, if_neg hb]
      split at h
      · rename_i e
        rw [if_pos e]
        simp
      · cases h
theorem del_none : ∀ (L : Fl) (x : ByteArray), (lk L x).isSome = false → del L x = L
  | [], x, h => rfl
  | (y, c) :: L, x, h => by
    simp only [lk] at h
    simp only [del]
    split at h
    · rename_i hb
      rw [if_pos hb, del_none L x h]
    · rename_i hb
      rw [if_neg hb]
      split at h
      · cases h
      · rename_i e
        rw [if_neg e]

def fcells (L : Fl) : List Value := L.flatMap fun p => [.string p.1, .string (strOfNums p.2)]
theorem fcells_len (L : Fl) : (fcells L).length = L.length * 2 := by
  unfold fcells
  induction L with
  | nil => rfl
  | cons p L ih => simp [ih]; omega
theorem fcells_append (L M : Fl) : fcells (L ++ M) = fcells L ++ fcells M := by unfold fcells; simp
theorem fcells_at : ∀ {L : Fl} {i : Nat} {p : ByteArray × List Int}, L[i]? = some p → (fcells L)[i * 2]? = some (.string p.1) ∧ (fcells L)[i * 2 + 1]? = some (.string (strOfNums p.2))
  | [], i, p, h => by simp at h
  | q :: L, 0, p, h => by simp at h; subst h; exact ⟨rfl, rfl⟩
  | q :: L, i + 1, p, h => by
    have := fcells_at (L := L) (i := i) (p := p) (by simpa using h)
    have e1 : (i + 1) * 2 = (i * 2) + 1 + 1 := by omega
    rw [e1]
    exact this
/-- a list of files in memory -/
def FlV (w : World) (g c : Nat) (L : Fl) : Prop := w.ownsRow 0 49 2 (.slice (some ⟨g, 0, none⟩) L.length c) L.length (fcells L)
theorem FlV.cell {w : World} {g c : Nat} {L : Fl} (h : FlV w g c L) {i : Nat} {p : ByteArray × List Int} (hp : L[i]? = some p) : w.cell? ⟨g, i * 2, none⟩ = some (.string p.1) ∧ w.cell? ⟨g, i * 2 + 1, none⟩ = some (.string (strOfNums p.2)) := by
  have hi := (List.getElem?_eq_some_iff.1 hp).1
  have hl := fcells_len L
  obtain ⟨h1, h2⟩ := fcells_at hp
  unfold FlV at h
  exact ⟨by rw [h.cellAt (i * 2) (by omega), h1], by rw [h.cellAt (i * 2 + 1) (by omega), h2]⟩
theorem FlV.fr {S : Nat → Prop} {w w' : World} {g c : Nat} {L : Fl} (h : FlV w g c L) (hf : Fr S w w') (hS : ¬ S g) : FlV w' g c L := own_fr h hf (fun k e => by cases e; exact hS)
theorem FlV.lt {w : World} {g c : Nat} {L : Fl} (h : FlV w g c L) : g < w.heap.size := (World.ownsRow.lt h g rfl).2
theorem bLess (x y : ByteArray) : Op.bytesLess x.toList y.toList = decide (bl x y) := by
  rw [bytesLess_eq, ByteArray.toList_eq, ByteArray.toList_eq]
  rfl
theorem strEq (x y : ByteArray) : (x.toList == y.toList) = decide (x = y) := by
  by_cases h : x = y
  · subst h; simp
  · rw [str_ne h]; simp [h]

set_option maxRecDepth 100000 in
set_option maxHeartbeats 400000 in
theorem find_any (w : World) (g c : Nat) (L : Fl) (x : ByteArray) (h : FlV w g c L) (hl : L.length ≤ 1000000) :
    Calls Try.prog 9 #[.slice (some ⟨g, 0, none⟩) L.length c, .string x] w fun e w' => e = .returned (.tuple #[.int .i64 (idx L x), .bool (lk L x).isSome]) ∧ ∃ n, w' = w.drewN n := by
  have hle := idx_le L x
  have hix : (idx L x : Int) ≤ (L.length : Int) := by omega
  have HI := Lib.hid (lk_idx L x)
  have HF := Lib.hid h
  clear h
  go_enter Try.func9, Try.ntmps9
  go_wp2
  go_loopw [6] (fun iv wr => ∃ i : Nat, i ≤ idx L x ∧ iv = .int .i64 i ∧ wr = w) (fun iv _ => L.length - (intOf iv).toNat)
  case atStart => exact ⟨0, by omega, rfl, rfl⟩
  case round =>
    obtain ⟨i, hi, rfl, rfl⟩ := hrel
    by_cases hlt : i < idx L x
    · obtain ⟨p, hp, hb⟩ := idx_lt hlt
      have hil : i < L.length := by omega
      have c0 := (HF.out.cell hp).1
      have hl1 : decide ((i : Int) < (L.length : Int)) = true := by simp; omega
      have hb1 : Op.bytesLess p.1.toList x.toList = true := by rw [bLess]; simpa using hb
      go_wp2
      go_roundw
      case rel => exact ⟨i + 1, by omega, by go_num, trivial⟩
      case measure => exact meas hil
    · obtain rfl : i = idx L x := by omega
      by_cases hil : idx L x < L.length
      · obtain ⟨p, hp⟩ : ∃ p, L[idx L x]? = some p := ⟨_, List.getElem?_eq_getElem hil⟩
        have c0 := (HF.out.cell hp).1
        have hl1 : decide ((idx L x : Int) < (L.length : Int)) = true := by simp; omega
        have hb1 : Op.bytesLess p.1.toList x.toList = false := by rw [bLess]; simpa using idx_at hp
        have heq : (lk L x).isSome = (p.1.toList == x.toList) := by
          rw [HI.out, hp, strEq]
          by_cases e : p.1 = x <;> simp [e]
        have HE := Lib.hid heq
        clear heq
        go_wp2
        go_quiet (fail)
        go_wp2
        go_ret2
        exact ⟨by rw [HE.out]; rfl, _, rfl⟩
      · have hl1 : decide ((idx L x : Int) < (L.length : Int)) = false := by simp; omega
        have heq : (lk L x).isSome = false := by
          rw [HI.out, List.getElem?_eq_none (by omega)]
          rfl
        have HE := Lib.hid heq
        clear heq
        go_wp2
        go_quiet (fail)
        go_wp2
        go_ret2
        exact ⟨by rw [HE.out]; rfl, _, rfl⟩

theorem read_any (w : World) (g c : Nat) (L : Fl) (x : ByteArray) (h : FlV w g c L) (hl : L.length ≤ 1000000) :
    Calls Try.prog 18 #[.slice (some ⟨g, 0, none⟩) L.length c, .string x] w fun e w' => e = .returned (.string (strOfNums ((lk L x).getD []))) ∧ ∃ n, w' = w.drewN n := by
  have HF := Lib.hid (find_any w g c L x h hl)
  have hix := idx_le L x
  have HI := Lib.hid (lk_idx L x)
  cases hs : (lk L x).isSome
  · have hn : lk L x = none := by simpa using hs
    rw [hs] at HF
    rw [hn]
    go_enter Try.func18, Try.ntmps18
    go_wp2_with fail
    refine HF.out.mono ?_
    rintro e w' ⟨rfl, n, rfl⟩
    go_wp2
    go_ret
    exact ⟨rfl, n, rfl⟩
  · obtain ⟨l, hlk⟩ := Option.isSome_iff_exists.1 hs
    rw [hs] at HF
    have hil : idx L x < L.length := by
      rcases Nat.lt_or_ge (idx L x) L.length with h | h
      · exact h
      · have := HI.out
        rw [List.getElem?_eq_none h, hlk] at this
        cases this
    obtain ⟨p, hp⟩ : ∃ p, L[idx L x]? = some p := ⟨_, List.getElem?_eq_getElem hil⟩
    have hpl : p.2 = l := by
      have := HI.out
      rw [hp, hlk] at this
      simp only at this
      split at this
      · injection this with this; exact this.symm
      · cases this
    rw [hlk]
    subst hpl
    go_enter Try.func18, Try.ntmps18
    go_wp2_with fail
    refine HF.out.mono ?_
    rintro e w' ⟨rfl, n, rfl⟩
    have c1 := ((h.fr (Fr.drewN w n (fun _ => False)) (fun h => h)).cell hp).2
    have hi0 : (0 : Int) ≤ (idx L x : Int) := by omega
    have hi1 : (idx L x : Int) < (L.length : Int) := by omega
    go_wp2
    go_ret
    exact ⟨rfl, n, rfl⟩

theorem strOf_size (l : List Int) : (strOfNums l).size = l.length := by simp [strOfNums, ByteArray.size]
theorem used_take_succ {L : Fl} {k : Nat} {p : ByteArray × List Int} (hp : L[k]? = some p) : used (L.take (k + 1)) = used (L.take k) + p.2.length := by
  rw [take_succ hp]
  have : ∀ (M : Fl), used (M ++ [p]) = used M + p.2.length := by
    intro M
    induction M with
    | nil => simp [used]
    | cons q M ih => simp only [List.cons_append, used, ih]; omega
  exact this _

theorem used_app (M N : Fl) : used (M ++ N) = used M + used N := by
  induction M with
  | nil => simp [used]
  | cons q M ih => simp only [List.cons_append, used, ih]; omega
theorem used_pre (L : Fl) (i : Nat) : used (L.take i) ≤ used L := by
  have := used_app (L.take i) (L.drop i)
  rw [List.take_append_drop] at this
  omega

set_option maxRecDepth 100000 in
set_option maxHeartbeats 400000 in
theorem used_any (w : World) (g c : Nat) (L : Fl) (h : FlV w g c L) (hl : L.length ≤ 1000000) (hu : used L ≤ 1000000000) :
    Calls Try.prog 11 #[.slice (some ⟨g, 0, none⟩) L.length c] w fun e w' => e = .returned (.int .i64 (used L)) ∧ Fr (fun _ => False) w w' := by
  have HF := Lib.hid h
  clear h
  go_enter Try.func11, Try.ntmps11
  go_wp2
  go_loopw [3, 8] (fun nv iv wr => ∃ i : Nat, i ≤ L.length ∧ iv = .int .i64 i ∧ nv = .int .i64 (used (L.take i)) ∧ Fr (fun _ => False) w wr) (fun _ iv _ => L.length - (intOf iv).toNat)
  case atStart => exact ⟨0, by omega, rfl, rfl, Fr.refl _ _⟩
  case round =>
    obtain ⟨i, hi, rfl, rfl, hf⟩ := hrel
    by_cases hil : i < L.length
    · obtain ⟨p, hp⟩ : ∃ p, L[i]? = some p := ⟨_, List.getElem?_eq_getElem hil⟩
      obtain ⟨c0, c1⟩ := (HF.out.fr hf (fun h => h)).cell hp
      have hl1 : decide ((i : Int) < (L.length : Int)) = true := by simp; omega
      have hus := used_take_succ hp
      have hsz := strOf_size p.2
      have hub : used (L.take (i + 1)) ≤ used L := used_pre L (i + 1)
      go_wp2
      go_roundw
      case rel => exact ⟨i + 1, by omega, by go_num, by rw [hus]; go_num, hf.trans (Fr.alloc _ _ _)⟩
      case measure => exact meas hil
    · have hl1 : decide ((i : Int) < (L.length : Int)) = false := by simp; omega
      obtain rfl : i = L.length := by omega
      rw [List.take_length]
      go_wp2
      go_ret
      exact ⟨rfl, hf⟩

end Go.Proofs.Ytbdmlenapccdnaa
