/- slices.Concat of slices of numbers. -/
import Derived.Test.YtgfjilokpmafpabSb
import Derived.Test.YtgfjilokpmafpabOShelf
import Derived.Lib.Hide
namespace Go.Proofs.Ytgfjilokpmafpab
open Go.RowKit Go.Shelf

def MadeI (l : List Int) (w : World) (e : Ending) (w' : World) : Prop := ∃ v, e = .returned v ∧ w'.ownsRow w.heap.size 3 1 v l.length (l.map (Value.int .i64)) ∧ Below w.heap.size w w'
theorem takeSI {α : Type} {l : List α} {i : Nat} {x : α} (h : l[i]? = some x) : l.take (i + 1) = l.take i ++ [x] := by rw [List.take_add_one, h]; rfl
structure Sl where
  A : Option Addr
  b : List Int
  c : Nat
def Sl.val (s : Sl) : Value := .slice s.A s.b.length s.c
def cat (ss : List Sl) : List Int := ss.flatMap Sl.b
theorem cat_take {ss : List Sl} {i : Nat} {s : Sl} (h : ss[i]? = some s) : cat (ss.take (i + 1)) = cat (ss.take i) ++ s.b := by
  rw [takeSI h]
  simp [cat]
theorem cat_pre (ss : List Sl) (i : Nat) : (cat (ss.take i)).length ≤ (cat ss).length := by
  have : cat ss = cat (ss.take i) ++ cat (ss.drop i) := by
    unfold cat
    rw [← List.flatMap_append, List.take_append_drop]
  rw [this, List.length_append]
  omega
/-- room for n bytes, none of them there -/
theorem Grow_nil (n : Nat) (w : World) (hn : n ≤ 100000000) : Calls Try.prog 39 #[.slice none 0 0, .int .i64 n] w (MadeI [] w) := by
  obtain ⟨i0, hi, hz0, hz1, hz2⟩ := info_parts infoInt
  by_cases h0 : n = 0
  · subst h0
    refine (Any8.slices_Grow_room Try.grow39 none 0 0 0 w (Nat.le_refl _) (by omega) (by omega) (Nat.le_refl _)).mono ?_
    rintro e w' ⟨rfl, rfl⟩
    exact ⟨_, rfl, ⟨rfl, .inl ⟨rfl, rfl⟩⟩, Below.refl _ _⟩
  · refine (Any8.slices_Grow_grow Try.grow39 i0 (.int .i64 0) hi hz0 (by omega) none 0 0 n [] w (Nat.le_refl _) (by omega) (by rw [hz2]; omega) (by omega) (by simp) (fun _ => rfl) (fun a h => by cases h)).mono ?_
    rintro e w' ⟨rfl, rfl⟩
    have hG := grownCap_ge w (0 + n) 0 3
    have hGm := grownCap_le_maxLen w (0 + n) 0 3 (by unfold maxLen; omega)
    refine ⟨_, rfl, ⟨rfl, .inr ⟨w.heap.size, grownCap w (0 + n) 0 3, _, rfl, Nat.le_refl _, heap_alloc_new w.drew _, Nat.zero_le _, hGm, ?_, ?_⟩⟩, (Below.refl _ w).drew.alloc (Nat.le_refl _) _⟩
    · have e : Try.grow39_ren.t 25 = 3 := rfl
      rw [e]
      simp only [Nat.zero_add] at hG
      simp [Builtin.zeroCells, Value.cells]
      omega
    · simp

set_option maxRecDepth 100000 in
set_option maxHeartbeats 400000 in
theorem Concat_any (ss : List Sl) (g c : Nat) (w : World) (hglt : g < w.heap.size) (hg : ∀ i s, ss[i]? = some s → w.cell? ⟨g, i, none⟩ = some s.val) (hrd : ∀ s ∈ ss, Rd w .i64 s.A s.b) (hnil : ∀ s ∈ ss, s.A = none → s.c = 0) (hls : ss.length ≤ 1000) (htot : (cat ss).length ≤ 100000000) :
    Calls Try.prog 25 #[.slice (some ⟨g, 0, none⟩) ss.length c] w (MadeI (cat ss) w) := by
  obtain ⟨i0, hi, hz0, hz1, hz2⟩ := info_parts infoInt
  have HG := Lib.hid hg
  have HR := Lib.hid hrd
  have HN := Lib.hid hnil
  clear hg hrd hnil
  go_enter Try.func25, Try.ntmps25
  go_wp2
  go_loopw [3, 11] (fun sv iv wr => ∃ i : Nat, i ≤ ss.length ∧ iv = .int .i64 i ∧ sv = .int .i64 (cat (ss.take i)).length ∧ wr = w) (fun _ iv _ => ss.length - (intOf iv).toNat)
  case atStart => exact ⟨0, by omega, rfl, rfl, rfl⟩
  case round =>
    obtain ⟨i, hil, rfl, rfl, hwr⟩ := hrel
    replace hwr := hwr.symm
    subst hwr
    have hpre := cat_pre ss i
    obtain ⟨S, hS⟩ : ∃ S, (cat (ss.take i)).length = S := ⟨_, rfl⟩
    by_cases hlt : i < ss.length
    · have hl1 : decide ((i : Int) < (ss.length : Int)) = true := by simp; omega
      obtain ⟨s, hs⟩ : ∃ s, ss[i]? = some s := ⟨_, List.getElem?_eq_getElem hlt⟩
      have hx := HG.out i s hs
      unfold Sl.val at hx
      have hpre2 := cat_pre ss (i + 1)
      have hct := cat_take hs
      have hln : (cat (ss.take (i + 1))).length = S + s.b.length := by rw [hct, List.length_append, hS]
      rw [hln] at hpre2
      rw [hS]
      have HLN := Lib.hid hln
      have hnn : decide ((S : Int) + (s.b.length : Int) < 0) = false := by simp; omega
      clear hct hln hpre hS
      go_wp2
      go_roundw
      case rel => exact ⟨i + 1, by omega, by go_num, by rw [HLN.out]; go_num, trivial⟩
      case measure => simp [intOf]; omega
    · have hl1 : decide ((i : Int) < (ss.length : Int)) = false := by simp; omega
      obtain rfl : i = ss.length := by omega
      rw [List.take_length] at hS hpre
      rw [List.take_length, hS]
      go_wp2_with fail
      refine (Grow_nil S _ (by omega)).mono ?_
      rintro e w1 ⟨v1, rfl, hown1, hb1⟩
      go_wp2_with fail
      go_loopw [6, 27] (fun v iv wr => ∃ i : Nat, i ≤ ss.length ∧ iv = .int .i64 i ∧ wr.ownsRow w.heap.size 3 1 v (cat (ss.take i)).length ((cat (ss.take i)).map (Value.int .i64)) ∧ Below w.heap.size w wr) (fun _ iv _ => ss.length - (intOf iv).toNat)
      case atStart => exact ⟨0, by omega, rfl, hown1, hb1⟩
      case round =>
        obtain ⟨i, hil, rfl, hown, hB⟩ := hrel
        have hpre := cat_pre ss i
        by_cases hlt : i < ss.length
        · have hl1 : decide ((i : Int) < (ss.length : Int)) = true := by simp; omega
          obtain ⟨s, hs⟩ : ∃ s, ss[i]? = some s := ⟨_, List.getElem?_eq_getElem hlt⟩
          have hx := HG.out i s hs
          unfold Sl.val at hx
          have hx' := (hB.cell (p := ⟨g, i, none⟩) hglt).trans hx
          have hct := cat_take hs
          have hpre2 := cat_pre ss (i + 1)
          rw [hct, List.length_append] at hpre2
          have HCT := Lib.hid hct
          clear hct
          have hrs := (HR.out s (List.mem_of_getElem? hs)).below hB
          have hns := HN.out s (List.mem_of_getElem? hs)
          go_wp2_with (at_builtin; refine wpList_append_rd rfl 22 rfl w.heap.size 3 i0 (.int .i64 0) 8 Try.underlying22 hi hz0 hz1 hz2 _ _ _ rfl hown s.A s.b.length s.c rfl s.b .i64 rfl hrs hns rfl (by unfold maxLen; omega) (by omega) hB.size ?_; intro v2 w2 hown2 hgrow2)
          go_roundw
          case rel =>
            refine ⟨i + 1, by omega, by go_num, ?_, hB.grown hgrow2 hB.size (fun k e => (hown.lt k e).1)⟩
            rw [HCT.out, List.length_append, List.map_append]
            exact hown2
          case measure => simp [intOf]; omega
        · have hl1 : decide ((i : Int) < (ss.length : Int)) = false := by simp; omega
          obtain rfl : i = ss.length := by omega
          rw [List.take_length] at hown
          go_wp2
          go_ret
          exact ⟨_, rfl, hown, hB⟩

end Go.Proofs.Ytgfjilokpmafpab
