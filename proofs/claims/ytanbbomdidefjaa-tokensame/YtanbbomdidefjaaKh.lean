/- The document's example: two texts, joined. -/
import Derived.Test.YtanbbomdidefjaaKb
import Derived.Deep.AppendLies
namespace Go.Proofs.Ytanbbomdidefjaa
open Go.RowKit Go.Lib

theorem isB_keep {B b : Nat} {bs : List Value} {w w' : World} (h : Lib.IsBuilder 71 5 B b bs w) (hb : Below w.heap.size w w') : Lib.IsBuilder 71 5 B b bs w' := by
  have one : ∀ p, Lib.BuilderAt 71 5 B b p bs w → Lib.BuilderAt 71 5 B b p bs w' := by
    rintro p hh
    have hlt := hh.lt
    obtain ⟨hB, v, h1, h2, h3⟩ := hh
    exact ⟨hB, v, (hb.block b hlt).trans h1, own_keep h2 hb, h3⟩
  rcases h with h | h
  · exact .inl (one _ h)
  · exact .inr (one _ h)

/-- a text's cells -/
def tokT (s : ByteArray) : List Value := [.int .i64 1, .string ⟨#[]⟩, .slice none 0 0, .bool false, .string s, .string ⟨#[]⟩, .string ⟨#[]⟩, .bool false, .bool false, .bool false]
theorem infoTok : (Try.prog.info? 36).map (fun i => (i.size, i.bytes)) = some (10, 112) := by kernel_rfl
/-- the two texts lie at b -/
def Two (w : World) (b : Nat) : Prop := w.heap[b]? = some (.cells (tokT ⟨#[97]⟩ ++ tokT ⟨#[98]⟩).toArray 36 (0, 0))
theorem Two.cell {w : World} {b : Nat} (h : Two w b) (j : Nat) : w.cell? ⟨b, j, none⟩ = (tokT ⟨#[97]⟩ ++ tokT ⟨#[98]⟩)[j]? := by
  rw [cell_of_row w b j _ _ _ h]
  simp
theorem Two.lt {w : World} {b : Nat} (h : Two w b) : b < w.heap.size := by
  rcases Nat.lt_or_ge b w.heap.size with hlt | hge
  · exact hlt
  · unfold Two at h; rw [Array.getElem?_eq_none hge] at h; cases h
/-- the first k letters -/
def abk : Nat → List UInt8 | 0 => [] | 1 => [97] | _ => [97, 98]

set_option maxHeartbeats 2000000 in
set_option maxRecDepth 100000 in
theorem lead_two (b : Nat) (w : World) (h : Two w b) :
    Calls Try.prog 26 #[.slice (some ⟨b, 0, none⟩) 2 2] w fun e w' => e = .returned (.tuple #[.string ⟨#[97, 98]⟩, .int .i64 2]) ∧ Below w.heap.size w w' := by
  have H := Lib.hid h
  have hbl := h.lt
  clear h
  go_enter Try.func26, Try.ntmps26
  go_wp2
  go_loopw [9] (fun iv wr => ∃ k : Nat, k ≤ 2 ∧ iv = .int .i64 k ∧ Hid (Lib.IsBuilder 71 5 w.heap.size w.heap.size (Lib.byteCells (abk k)) wr) ∧ Below w.heap.size w wr) (fun iv _ => 2 - (intOf iv).toNat)
  case atStart => exact ⟨0, by omega, rfl, Lib.hid (Lib.fresh_isBuilder 71 5 w), (Below.refl _ _).alloc (Nat.le_refl _) _⟩
  case round =>
    obtain ⟨k, hk, rfl, HB, hb⟩ := hrel
    have hT : Two wr b := (hb.block b hbl).trans H.out
    have hsz := hb.size
    have hne : ¬ wr.heap.size = b := by omega
    match k, hk with
    | 0, _ =>
      have c0 := hT.cell 0
      have c1 := hT.cell 1
      have c2 := hT.cell 2
      have c3 := hT.cell 3
      have c4 := hT.cell 4
      have c5 := hT.cell 5
      have c6 := hT.cell 6
      have c7 := hT.cell 7
      have c8 := hT.cell 8
      have c9 := hT.cell 9
      simp [tokT] at c0 c1 c2 c3 c4 c5 c6 c7 c8 c9
      have KW := Lib.hid (writeString_any w.heap.size w.heap.size (Lib.byteCells (abk 0)) ⟨#[97]⟩ (wr.alloc (.cells (tokT ⟨#[97]⟩).toArray 36)) (isB_keep HB.out ((Below.refl _ _).alloc (Nat.le_refl _) _)) (by decide) (by simp; omega))
      simp only [tokT] at KW
      clear hT
      go_wp2_with fail
      refine KW.out.mono ?_
      rintro e w2 ⟨rfl, hB2, hb2⟩
      have HB2 := Lib.hid hB2
      clear hB2
      go_wp2
      go_roundw
      case rel => exact ⟨1, by omega, rfl, Lib.hid (.inr HB2.out), (hb.alloc hb.size _).trans hb2⟩
      case measure => simp [intOf]
    | 1, _ =>
      have c0 := hT.cell 10
      have c1 := hT.cell 11
      have c2 := hT.cell 12
      have c3 := hT.cell 13
      have c4 := hT.cell 14
      have c5 := hT.cell 15
      have c6 := hT.cell 16
      have c7 := hT.cell 17
      have c8 := hT.cell 18
      have c9 := hT.cell 19
      simp [tokT] at c0 c1 c2 c3 c4 c5 c6 c7 c8 c9
      have KW := Lib.hid (writeString_any w.heap.size w.heap.size (Lib.byteCells (abk 1)) ⟨#[98]⟩ (wr.alloc (.cells (tokT ⟨#[98]⟩).toArray 36)) (isB_keep HB.out ((Below.refl _ _).alloc (Nat.le_refl _) _)) (by decide) (by simp; omega))
      simp only [tokT] at KW
      clear hT
      go_wp2_with fail
      refine KW.out.mono ?_
      rintro e w2 ⟨rfl, hB2, hb2⟩
      have HB2 := Lib.hid hB2
      clear hB2
      go_wp2
      go_roundw
      case rel => exact ⟨2, by omega, rfl, Lib.hid (.inr HB2.out), (hb.alloc hb.size _).trans hb2⟩
      case measure => simp [intOf]
    | 2, _ =>
      have KS := Lib.hid (string_any w.heap.size w.heap.size [97, 98] wr HB.out (by omega))
      clear hT
      go_wp2_with fail
      refine KS.out.mono ?_
      rintro e w2 ⟨rfl, hb2⟩
      go_wp2
      go_ret2
      exact ⟨rfl, hb.trans hb2⟩

end Go.Proofs.Ytanbbomdidefjaa
