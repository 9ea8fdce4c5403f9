/- Names, by the library's contracts of maps.Keys and slices.Sorted. -/
import Derived.Test.YtpljmoiemmaecaaShelf
import Derived.Test.YtpljmoiemmaecaaAw
import Derived.Sort.KeysCollected
import Derived.TacticsInMore
namespace Go.Proofs.Ytpljmoiemmaecaa
open Go.RowKit Go.Maps Go.Sort Go.Shelf

theorem sorts_in (m : Nat) : AnyZ.SortsIn Try.prog Try.sorted38_ren Fence.wide m :=
  ⟨fun blk off cap ss W hH hblk hsz => callsIn_wide.2 (AnyM.slices_Sort_string Try.sort43 blk off cap ss W hH hblk hsz), fun p cap W => callsIn_wide.2 (AnyM.slices_Sort_string_none Try.sort43 p cap W)⟩
/-- maps.Keys: a function value over one new block that holds the map -/
theorem keys_call (mb : Option Nat) (W : World) : CallsIn Fence.wide 5 Try.prog 39 #[.map mb] W fun e w' => e = .returned (.func (.func 44) #[] #[.pointer (some ⟨W.heap.size, 0, none⟩)]) ∧ w' = W.alloc (.cells #[.map mb] 56) :=
  AnyZ.keys_in Try.keys39 Fence.wide 5 trivial rfl mb W
/-- what slices.Sorted leaves of it -/
def SortedPost (w0 : World) (Pss : List (List UInt8) → Prop) (e : Ending) (w' : World) : Prop :=
  ∃ (v : Value) (ss : List (List UInt8)), e = .returned v ∧ Pss ss ∧ w'.ownsRow w0.heap.size 9 1 v ss.length ((ss.mergeSort (fun x y => decide (x ≤ y))).map encStr) ∧ (v = .slice none 0 0 ↔ ss = []) ∧ Below w0.heap.size w0 w'

set_option maxHeartbeats 1000000 in
theorem sorted_some (b nn : Nat) (D0 : DataW Unit) (w : World) (hown : w.ownsMap Try.prog 9 sv b nn D0) (hmax : Maps.size D0 ≤ maxLen) (hbytes : Maps.size D0 * 16 ≤ 140737488355328) :
    CallsIn Fence.wide 5 Try.prog 38 #[.func (.func 44) #[] #[.pointer (some ⟨w.heap.size, 0, none⟩)]] (w.alloc (.cells #[.map (some b)] 56)) (SortedPost (w.alloc (.cells #[.map (some b)] 56)) fun ss => ss.Perm (strKeys D0)) := by
  have hbl := hown.lt
  have hseq : SeqGives Fence.wide 2 Try.prog 44 #[.pointer (some ⟨w.heap.size, 0, none⟩)] encStr (fun ss => ss.Perm (strKeys D0)) (Maps.size D0) (w.alloc (.cells #[.map (some b)] 56)) :=
    AnyZ.keys_gives (ρ := Try.keys39_ren) { Try.keys39 with } Fence.wide _ trivial rfl (by omega) w.heap.size b nn D0 _ (by simp) (by simp) (by
      obtain ⟨es, clock, hb, Ft, hs, hD⟩ := hown
      exact ⟨es, clock, (Below.heap_alloc _ _ b hbl).trans hb, Ft, hs, hD⟩)
  exact AnyZ.sorted_in Try.sorted38 Fence.wide 5 trivial trivial trivial trivial rfl (by omega) (sorts_in _) (enters_of Try.func43 (by kernel_rfl) rfl) 44 #[.pointer (some ⟨w.heap.size, 0, none⟩)] trivial (enters_of Try.func44 (by kernel_rfl) rfl) _ _ hmax hbytes _ hseq

set_option maxHeartbeats 1000000 in
theorem sorted_none (w : World) :
    CallsIn Fence.wide 5 Try.prog 38 #[.func (.func 44) #[] #[.pointer (some ⟨w.heap.size, 0, none⟩)]] (w.alloc (.cells #[.map none] 56)) (SortedPost (w.alloc (.cells #[.map none] 56)) fun ss => ss = []) := by
  have hseq : SeqGives Fence.wide 2 Try.prog 44 #[.pointer (some ⟨w.heap.size, 0, none⟩)] encStr (fun ss : List (List UInt8) => ss = []) 0 (w.alloc (.cells #[.map none] 56)) :=
    AnyZ.keys_gives_nil (ρ := Try.keys39_ren) { Try.keys39 with } Fence.wide _ trivial rfl w.heap.size _ (by simp) (by simp)
  exact AnyZ.sorted_in Try.sorted38 Fence.wide 5 trivial trivial trivial trivial rfl (by omega) (sorts_in _) (enters_of Try.func43 (by kernel_rfl) rfl) 44 #[.pointer (some ⟨w.heap.size, 0, none⟩)] trivial (enters_of Try.func44 (by kernel_rfl) rfl) _ 0 (Nat.zero_le _) (by omega) _ hseq

/-- the names of files in order -/
def nms (L : Fl) : List (List UInt8) := L.map fun p => p.1.data.toList
theorem nms_enc (L : Fl) : (nms L).map encStr = L.map fun p => Value.string p.1 := by
  unfold nms
  rw [List.map_map]
  rfl
theorem nms_sorted {L : Fl} (h : Srt L) : (nms L).mergeSort (fun x y => decide (x ≤ y)) = nms L := by
  apply List.mergeSort_of_pairwise
  refine (List.pairwise_map.2 (h.imp (fun hab => ?_)))
  simp only [decide_eq_true_eq]
  exact List.le_of_lt hab
theorem nms_nodup {L : Fl} (h : Srt L) : (nms L).Nodup := by
  refine List.pairwise_map.2 (List.Pairwise.imp (fun {a b} hab => ?_) h)
  intro e
  unfold bl at hab
  rw [e] at hab
  exact List.lt_irrefl _ hab
theorem lk_isSome {L : Fl} (h : Srt L) (x : List UInt8) : x ∈ nms L ↔ (lk L ⟨x.toArray⟩).isSome = true := by
  unfold nms
  constructor
  · intro hx
    obtain ⟨p, hp, rfl⟩ := List.mem_map.1 hx
    have := mem_lk h (x := p.1) (c := p.2) hp
    simp [this]
  · intro hx
    obtain ⟨c, hc⟩ := Option.isSome_iff_exists.1 hx
    exact List.mem_map.2 ⟨_, lk_mem hc, by simp⟩

theorem Names_off {w : World} {d m : Nat} {A : Ab} {σ : Dv} (h : Gd w d m A σ) (ho : A.off = true) : Calls Try.prog 27 #[.pointer (some ⟨d, 0, none⟩)] w fun e w' => e = .returned (.slice none 0 0) ∧ w = w' := by
  have c8 := (h.inv.cel.cell 8).trans dc8
  rw [h.off, ho] at c8
  go_enter Try.func27, Try.ntmps27
  go_wp2
  go_ret
  exact ⟨rfl, rfl⟩

/-- what Names answers: a new row of the names, in order -/
def NamesPost (w : World) (A : Ab) (e : Ending) (w' : World) : Prop :=
  ∃ v, e = .returned v ∧ w'.ownsRow w.heap.size 9 1 v A.now.length (A.now.map fun p => Value.string p.1) ∧ Fr (fun _ => False) w w'

theorem sorted_done {w w' : World} {A : Ab} (hS : Srt A.now) (o : Obj) {e : Ending} {Pss : List (List UInt8) → Prop} (hP : ∀ ss, Pss ss → ss.Perm (nms A.now)) (h : SortedPost (w.alloc o) Pss e w') : NamesPost w A e w' := by
  obtain ⟨v, ss, rfl, hp, hrow, _, hb⟩ := h
  have hp := hP ss hp
  have hl : ss.length = A.now.length := by rw [hp.length_eq]; unfold nms; simp
  have hm := mergeSort_of_perm hp
  unfold leB at hm
  rw [hm, nms_sorted hS, nms_enc, hl] at hrow
  refine ⟨v, rfl, ownsRow_base_a hrow (by simp), (Fr.alloc w o _).trans ⟨hb.os, hb.tape, hb.output, hb.size, fun k hk _ => hb.block k hk⟩⟩

set_option maxHeartbeats 1000000 in
theorem Names_gd {w : World} {d m : Nat} {A : Ab} {σ : Dv} (h : Gd w d m A σ) (ho : A.off = false) (hm : m ≤ 2000) : Calls Try.prog 27 #[.pointer (some ⟨d, 0, none⟩)] w (NamesPost w A) := by
  have c8 := (h.inv.cel.cell 8).trans dc8
  rw [h.off, ho] at c8
  have c0 := (h.inv.cel.cell 0).trans dc0
  have hSn := h.sn
  have hnn := h.nn
  rcases h.inv.fn with ⟨hmn, hV⟩ | ⟨b, hmn, D0, hown, hD⟩
  · rw [hmn] at c0
    have hnil : A.now = [] := by
      refine Srt.ext hSn List.Pairwise.nil (fun x => ?_)
      have := congrFun hV x
      unfold vnow at this
      rw [← h.now x]
      cases hS : σ.S (.now x) with
      | none => rfl
      | some y => rw [hS] at this; cases this
    have KC := Lib.hid (fun W => callsIn_wide.1 (keys_call none W))
    have SC := Lib.hid (callsIn_wide.1 (sorted_none w))
    go_enter Try.func27, Try.ntmps27
    go_wp2_with (first
      | (go_at_call 39; refine (KC.out _).mono ?_; rintro e w' ⟨rfl, rfl⟩))
    refine SC.out.mono ?_
    intro e w' hP
    have hN := sorted_done (A := A) hSn _ (fun ss (e : ss = []) => by rw [e, hnil]; exact List.Perm.nil) hP
    obtain ⟨v, rfl, hrow, hf⟩ := hN
    go_wp2
    go_ret
    exact ⟨v, rfl, hrow, hf⟩
  · rw [hmn] at c0
    have hsz : Maps.size D0 ≤ σ.nn := hown.size_le
    have hperm : (nms A.now).Perm (strKeys D0) := by
      refine Collected.perm (left := fun _ => false) ⟨nms_nodup hSn, fun x => ?_⟩ hown K Try.underlying9 (fun _ => rfl)
      have h1 := (hD ⟨x.toArray⟩).1
      rw [lk_isSome hSn]
      have h2 : ky ⟨x.toArray⟩ = .string x := by unfold ky; simp
      rw [h2] at h1
      rw [h1]
      unfold vnow
      rw [← h.now]
      simp
    have KC := Lib.hid (fun W => callsIn_wide.1 (keys_call (some b) W))
    have SC := Lib.hid (callsIn_wide.1 (sorted_some b σ.nn D0 w hown (by unfold maxLen; omega) (by omega)))
    go_enter Try.func27, Try.ntmps27
    go_wp2_with (first
      | (go_at_call 39; refine (KC.out _).mono ?_; rintro e w' ⟨rfl, rfl⟩))
    refine SC.out.mono ?_
    intro e w' hP
    have hN := sorted_done (A := A) hSn _ (fun ss (e : ss.Perm (strKeys D0)) => e.trans hperm.symm) hP
    obtain ⟨v, rfl, hrow, hf⟩ := hN
    go_wp2
    go_ret
    exact ⟨v, rfl, hrow, hf⟩

end Go.Proofs.Ytpljmoiemmaecaa
