/- The contracts of chars.meaning and chars.Match. -/
import Derived.Test.YtdoglpaggmdnpaaCk
import Derived.Test.YtdoglpaggmdnpaaCt
import Derived.BigQuiet
import Derived.Deep.QuietTactic
namespace Go.Proofs.Ytdoglpaggmdnpaa
open Go.RowKit

set_option maxHeartbeats 400000 in
theorem meaning_any (s : ByteArray) (sg : Int) (bare : Bool) (w : World) :
    Calls Try.prog 33 #[.agg #[.string s, .int .i32 sg, .bool bare]] w fun e w' =>
      ∃ A, e = .returned (.slice A (Cx.meaning (s.data.toList, sg, bare)).length (Cx.meaning (s.data.toList, sg, bare)).length) ∧ Rd w' .i32 A (Cx.meaning (s.data.toList, sg, bare)) ∧ Below w.heap.size w w' := by
  go_enter Try.func33, Try.ntmps33
  go_wp2
  · have h1 : (s.toList == [110, 118, 108, 116]) = true := by assumption
    have hm : Cx.meaning (s.data.toList, sg, bare) = [sg, 8402] := by
      rw [ByteArray.toList_eq] at h1
      simp [Cx.meaning, Cx.nvlt, eq_of_beq h1]
    go_ret
    rw [hm]
    exact ⟨_, rfl, .inr ⟨_, _, rfl, by simp, fun i hi => by
      match i, hi with
      | 0, _ => simp
      | 1, _ => simp⟩, ((Below.refl _ _).alloc (Nat.le_refl _) _).alloc (by simp) _⟩
  · have h1 : (s.toList == [110, 118, 108, 116]) = false := by assumption
    have hm : Cx.meaning (s.data.toList, sg, bare) = [sg] := by
      rw [ByteArray.toList_eq] at h1
      have h2 : ¬ s.data.toList = [110, 118, 108, 116] := by simpa using h1
      simp [Cx.meaning, Cx.nvlt, h2]
    go_ret
    rw [hm]
    exact ⟨_, rfl, .inr ⟨_, _, rfl, by simp, fun i hi => by
      match i, hi with
      | 0, _ => simp⟩, ((Below.refl _ _).alloc (Nat.le_refl _) _).alloc (by simp) _⟩

def BestAt (w : World) (B : Nat) (e : List UInt8 × Int × Bool) : Prop :=
  w.cell? ⟨B, 0, none⟩ = some (.string ⟨e.1.toArray⟩) ∧ w.cell? ⟨B, 1, none⟩ = some (.int .i32 e.2.1) ∧ w.cell? ⟨B, 2, none⟩ = some (.bool e.2.2) ∧
  w.frozen? ⟨B, 0, none⟩ = false ∧ w.frozen? ⟨B, 1, none⟩ = false ∧ w.frozen? ⟨B, 2, none⟩ = false

theorem best_set (w : World) (B : Nat) (nm : List UInt8) (sg : Int) (bare : Bool) {v0 v1 v2 : Value} (c0 : w.cell? ⟨B, 0, none⟩ = some v0) (c1 : w.cell? ⟨B, 1, none⟩ = some v1) (c2 : w.cell? ⟨B, 2, none⟩ = some v2)
    (f0 : w.frozen? ⟨B, 0, none⟩ = false) (f1 : w.frozen? ⟨B, 1, none⟩ = false) (f2 : w.frozen? ⟨B, 2, none⟩ = false) :
    BestAt (((w.setCell ⟨B, 0, none⟩ (.string ⟨nm.toArray⟩)).setCell ⟨B, 1, none⟩ (.int .i32 sg)).setCell ⟨B, 2, none⟩ (.bool bare)) B (nm, sg, bare) := by
  refine ⟨?_, ?_, ?_, ?_, ?_, ?_⟩
  · rw [World.cell?_setCell_other _ _ _ _ (by simp), World.cell?_setCell_other _ _ _ _ (by simp)]
    exact World.cell?_setCell_same _ _ _ c0
  · rw [World.cell?_setCell_other _ _ _ _ (by simp)]
    exact World.cell?_setCell_same _ _ _ ((World.cell?_setCell_other _ _ _ _ (by simp)).trans c1)
  · exact World.cell?_setCell_same _ _ _ ((World.cell?_setCell_other _ _ _ _ (by simp)).trans ((World.cell?_setCell_other _ _ _ _ (by simp)).trans c2))
  all_goals simp [World.frozen?_setCell, f0, f1, f2]

/-- what a Match of rs answers -/
def MatchPost (rs : List Int) (w : World) (e : Ending) (w' : World) : Prop :=
  ∃ B, e = .returned (.tuple #[.slice B (Cx.found rs).length (Cx.found rs).length, .int .i64 (Cx.best rs 61).2.1, .bool (Cx.best rs 61).2.2]) ∧ Rd w' .i32 B (Cx.found rs) ∧ Below w.heap.size w w'

theorem run_ents_at (k : Nat) (h : k < 61) (nm : List UInt8) (sg : Int) (bare : Bool) (he : Cx.tab[k]?.getD ([], 0, false) = (nm, sg, bare)) (w : World) :
    (Instr.index 52 (.agg Cx.ents) (.int .i64 (k : Int))).run Try.prog w = .ok (.agg #[.string ⟨nm.toArray⟩, .int .i32 sg, .bool bare]) w := by
  have h2 : (k : Int) < 61 := by omega
  have hx := Cx.ents_at k h
  rw [he] at hx
  simp only [Cx.cells3] at hx
  simp [Instr.index, run_underlying Try.underlying52, asIntOf, go_sem, h, hx]

set_option maxHeartbeats 1000000 in
theorem match_any (rs : List Int) (A : Option Addr) (cap : Nat) (w : World) (hr : Rd w .i32 A rs) (hl : rs.length ≤ 1000000) :
    Calls Try.prog 25 #[.slice A rs.length cap] w (MatchPost rs w) := by
  go_enter Try.func25, Try.ntmps25
  go_wp2_with (go_at_call 31; refine (entries_any _).mono ?_; rintro e w' ⟨rfl, rfl⟩)
  go_loopw [6, 7, 13] (fun m t i wr => ∃ k : Nat, k ≤ 61 ∧ i = .int .i64 k ∧ m = .int .i64 (Cx.best rs k).2.1 ∧ t = .bool (Cx.best rs k).2.2 ∧ BestAt wr w.heap.size (Cx.best rs k).1 ∧ Below w.heap.size w wr ∧ w.heap.size < wr.heap.size)
    (fun _ _ i _ => 61 - (intOf i).toNat)
  case atStart => exact ⟨0, by omega, rfl, rfl, rfl, ⟨by simp [Cx.best], by simp [Cx.best], by simp [Cx.best], by simp, by simp, by simp⟩, ((Below.refl _ _).alloc (Nat.le_refl _) _).alloc (by simp) _, by simp; omega⟩
  case round =>
    obtain ⟨k, hk, rfl, rfl, rfl, hbest, hB, hsz⟩ := hrel
    have hr1 := hr.below hB
    have hle := Cx.best_le rs k hk
    by_cases hlt : k < 61
    · obtain ⟨nm, sg, bare, he⟩ : ∃ nm sg bare, Cx.tab[k]?.getD ([], 0, false) = (nm, sg, bare) := ⟨_, _, _, rfl⟩
      have hix := run_ents_at k hlt nm sg bare he
      have hnm : 0 < nm.length ∧ nm.length ≤ 10 := by
        have hk : k < Cx.tab.length := hlt
        rw [List.getElem?_eq_getElem hk, Option.getD_some] at he
        have := Cx.tab_len Cx.tab[k] (List.getElem_mem hk)
        rw [he] at this
        exact this
      have HE := Lib.hid he
      obtain ⟨c0, c1, c2, f0, f1, f2⟩ := hbest
      clear he hr
      go_wp2_with (go_at_call 32; refine (taken_any rs A cap ⟨nm.toArray⟩ sg bare _ (by exact hr1.below ((Below.refl _ _).alloc (Nat.le_refl _) _)) hl (by simp [ByteArray.size]; omega) (by simp [ByteArray.size]; omega)).mono ?_; rintro e w1 ⟨rfl, hb1⟩; obtain ⟨hc1, hf1⟩ := bcell hb1; have hz1 := hb1.size; simp only [World.size_alloc] at hz1)
      · have hgt : (Cx.best rs k).2.1 < (Cx.taken rs nm bare).1 := by assumption
        have hbs : Cx.best rs (k + 1) = ((nm, sg, bare), Cx.taken rs nm bare) := by rw [Cx.best_succ rs k hlt, HE.out]; unfold Cx.better; rw [if_pos hgt]
        go_roundw
        case rel =>
          refine ⟨k + 1, by omega, by go_num, by rw [hbs], by rw [hbs], ?_, ?_, ?_⟩
          · rw [hbs]
            have g0 : w1.cell? ⟨w.heap.size, 0, none⟩ = some (.string ⟨(Cx.best rs k).1.1.toArray⟩) := by rw [hc1 _ _ (by simp; omega), World.cell?_alloc_lt _ _ _ hsz, c0]
            have g1 : w1.cell? ⟨w.heap.size, 1, none⟩ = some (.int .i32 (Cx.best rs k).1.2.1) := by rw [hc1 _ _ (by simp; omega), World.cell?_alloc_lt _ _ _ hsz, c1]
            have g2 : w1.cell? ⟨w.heap.size, 2, none⟩ = some (.bool (Cx.best rs k).1.2.2) := by rw [hc1 _ _ (by simp; omega), World.cell?_alloc_lt _ _ _ hsz, c2]
            have k0 : w1.frozen? ⟨w.heap.size, 0, none⟩ = false := by rw [hf1 _ _ (by simp; omega), World.frozen?_alloc_past _ _ _ hsz, f0]
            have k1 : w1.frozen? ⟨w.heap.size, 1, none⟩ = false := by rw [hf1 _ _ (by simp; omega), World.frozen?_alloc_past _ _ _ hsz, f1]
            have k2 : w1.frozen? ⟨w.heap.size, 2, none⟩ = false := by rw [hf1 _ _ (by simp; omega), World.frozen?_alloc_past _ _ _ hsz, f2]
            exact best_set w1 w.heap.size nm sg bare g0 g1 g2 k0 k1 k2
          · exact (((((hB.alloc hB.size _).trans (hb1.mono (by have := hB.size; simp; omega))).setCell (p := ⟨w.heap.size, 0, none⟩) (Nat.le_refl _) _)).setCell (p := ⟨w.heap.size, 1, none⟩) (Nat.le_refl _) _).setCell (p := ⟨w.heap.size, 2, none⟩) (Nat.le_refl _) _
          · simp; omega
        case measure => simp [intOf]; omega
      · have hgt : ¬ (Cx.best rs k).2.1 < (Cx.taken rs nm bare).1 := by assumption
        have hbs : Cx.best rs (k + 1) = Cx.best rs k := by rw [Cx.best_succ rs k hlt, HE.out]; unfold Cx.better; rw [if_neg hgt]
        go_roundw
        case rel =>
          refine ⟨k + 1, by omega, by go_num, by rw [hbs], by rw [hbs], ?_, ?_, ?_⟩
          · rw [hbs]
            refine ⟨?_, ?_, ?_, ?_, ?_, ?_⟩
            · rw [hc1 _ _ (by simp; omega), World.cell?_alloc_lt _ _ _ hsz, c0]
            · rw [hc1 _ _ (by simp; omega), World.cell?_alloc_lt _ _ _ hsz, c1]
            · rw [hc1 _ _ (by simp; omega), World.cell?_alloc_lt _ _ _ hsz, c2]
            · rw [hf1 _ _ (by simp; omega), World.frozen?_alloc_past _ _ _ hsz, f0]
            · rw [hf1 _ _ (by simp; omega), World.frozen?_alloc_past _ _ _ hsz, f1]
            · rw [hf1 _ _ (by simp; omega), World.frozen?_alloc_past _ _ _ hsz, f2]
          · exact (hB.alloc hB.size _).trans (hb1.mono (by have := hB.size; simp; omega))
          · omega
        case measure => simp [intOf]; omega
    · obtain rfl : k = 61 := by omega
      obtain ⟨c0, c1, c2, f0, f1, f2⟩ := hbest
      clear hr hk hlt
      cases hm : ((((Cx.best rs 61).2.1 : Nat) : Int) == 0) with
      | true =>
        have hz : (Cx.best rs 61).2.1 = 0 := by have := eq_of_beq hm; omega
        have hfd : Cx.found rs = [] := by unfold Cx.found; rw [if_pos hz]
        have hen := Cx.best_zero rs 61 (by omega) hz
        have HF := Lib.hid hfd
        have HN := Lib.hid hen
        have HZ := Lib.hid hz
        clear hfd hen hz
        go_wp2
        go_ret3
        exact ⟨none, by rw [HF.out, HN.out, HZ.out]; rfl, .inl HF.out, hB⟩
      | false =>
        go_wp2_with (go_at_call 33; refine (meaning_any ⟨(Cx.best rs 61).1.1.toArray⟩ _ _ _).mono ?_; rintro e w1 ⟨A2, rfl, hrd, hb1⟩)
        go_ret3
        have hz : ¬ (Cx.best rs 61).2.1 = 0 := by simpa using hm
        have hfd : Cx.found rs = Cx.meaning (Cx.best rs 61).1 := by unfold Cx.found; rw [if_neg hz]
        exact ⟨A2, by rw [hfd]; rfl, by rw [hfd]; exact hrd, hB.trans (hb1.mono hB.size)⟩

end Go.Proofs.Ytdoglpaggmdnpaa
