/- Join of two texts; head. -/
import Derived.Test.YtanbbomdidefjaaKh
namespace Go.Proofs.Ytanbbomdidefjaa
open Go.RowKit Go.Lib

def lenOfV : Value → Nat | .slice _ n _ => n | _ => 0
/-- what Join's loop stands at -/
def JoinI (b : Nat) (w : World) (l v : Value) (wr : World) : Prop :=
  (l = .slice (some ⟨b, 0, none⟩) 2 2 ∧ v = .slice none 0 0 ∧ wr = w) ∨ (l = .slice (some ⟨b, 0, none⟩) 0 0 ∧ wr.ownsRow w.heap.size 36 10 v 1 (tokT ⟨#[97, 98]⟩) ∧ Below w.heap.size w wr)
theorem tokT_one (s : ByteArray) : ∀ u ∈ tokT s, u.oneCell' = true := by
  intro u hu
  simp [tokT] at hu
  rcases hu with rfl | rfl | rfl | rfl | rfl | rfl | rfl <;> rfl

set_option maxHeartbeats 2000000 in
set_option maxRecDepth 100000 in
theorem join_two (b : Nat) (w : World) (h : Two w b) :
    Calls Try.prog 17 #[.slice (some ⟨b, 0, none⟩) 2 2] w fun e w' => ∃ v, e = .returned v ∧ w'.ownsRow w.heap.size 36 10 v 1 (tokT ⟨#[97, 98]⟩) ∧ Below w.heap.size w w' := by
  obtain ⟨i0, hi, hz⟩ := Option.map_eq_some_iff.1 infoTok
  obtain ⟨hz1, hz2⟩ := Prod.mk.injEq _ _ _ _ ▸ hz
  clear hz
  have hz0 : ∃ z, i0.zero = some z ∧ z.cells.size = 10 := by
    have : (Try.prog.info? 36).map (fun i => i.zero.map (fun z => z.cells.size)) = some (some 10) := by kernel_rfl
    rw [hi] at this
    simp at this
    exact this
  obtain ⟨z, hz0, hzs⟩ := hz0
  have KL := Lib.hid (lead_two b w h)
  have hbl := h.lt
  clear h
  go_enter Try.func17, Try.ntmps17
  go_wp2
  go_loopw [0, 3] (fun l v wr => JoinI b w l v wr) (fun l _ _ => lenOfV l)
  case atStart => exact .inl ⟨rfl, rfl, rfl⟩
  case round =>
    rcases hrel with ⟨rfl, rfl, rfl⟩ | ⟨rfl, ho, hb⟩
    · go_wp2_with fail
      refine KL.out.mono ?_
      rintro e w1 ⟨rfl, hb1⟩
      go_wp2_with (at_builtin; refine wpList_append_own _ rfl _ _ 48 rfl wr.heap.size 36 i0 z 10 112 Try.underlying48 hi hz0 hz1 hz2 hzs (by decide) _ _ _ rfl (World.ownsRow_nil _ _ _ _) ⟨w1.heap.size, 0, none⟩ 1 1 (tokT ⟨#[97, 98]⟩) rfl rfl ?q1 (tokT_one _) ?q4 ?q5 ?q6 ?_)
      case q1 => exact cells_new w1 (tokT ⟨#[97, 98]⟩) 36
      case q4 => decide
      case q5 => decide
      case q6 => have := hb1.size; simp; omega
      intro v' w2 hown hgrow _
      have HO := Lib.hid hown
      clear hown
      go_wp2
      go_roundw
      case rel =>
        refine .inr ⟨rfl, HO.out, ?_⟩
        exact (hb1.alloc hb1.size _).grown hgrow (by have := hb1.size; simp; omega) (fun r e => by simp [Value.ownBlock] at e)
      case measure => simp [lenOfV]
    · have HO := Lib.hid ho
      clear ho
      go_wp2
      go_ret
      exact ⟨_, rfl, HO.out, hb⟩

set_option maxHeartbeats 2000000 in
set_option maxRecDepth 100000 in
theorem head7_any (w : World) : Calls Try.prog 9 #[] w fun e w' => e = .returned (.bool true) ∧ Below w.heap.size w w' := by
  have KJ := Lib.hid (join_two w.heap.size (w.alloc (.cells (tokT ⟨#[97]⟩ ++ tokT ⟨#[98]⟩).toArray 36)) (heap_alloc_new w _))
  simp only [tokT, List.cons_append, List.nil_append] at KJ
  go_enter Try.func9, Try.ntmps9
  go_wp2_with fail
  refine KJ.out.mono ?_
  rintro e w1 ⟨v, rfl, hown, hb⟩
  obtain ⟨g, cap, rfl, hg⟩ : ∃ g cap, v = .slice (some ⟨g, 0, none⟩) 1 cap ∧ g < w1.heap.size := by
    rcases hown.2 with ⟨_, h0⟩ | ⟨g, cap, cur, hv, _, hh, _⟩
    · omega
    · exact ⟨g, cap, hv, (Array.getElem?_eq_some_iff.1 hh).1⟩
  have c4 : w1.cell? ⟨g, 4, none⟩ = some (.string ⟨#[97, 98]⟩) := by
    rw [hown.cellAt 4 (by omega)]; rfl
  have hbb : Below w.heap.size w w1 := ((Below.refl _ w).alloc (Nat.le_refl _) _).trans (hb.mono (by simp))
  have HB := Lib.hid hbb
  clear hown hb hbb KJ
  go_wp2
  go_ret
  exact ⟨rfl, HB.out⟩

end Go.Proofs.Ytanbbomdidefjaa
