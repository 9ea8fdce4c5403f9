/- Contracts of path.Right, Hidden, Page and Dir, by the library's. -/
import Derived.Test.YtfkbjniodomdjaaDoorPShelf
import Derived.Test.YtfkbjniodomdjaaDoorPp
import Derived.Lib.SplitLaws
namespace Go.Proofs.YtfkbjniodomdjaaDoor
open Go.RowKit Go.Shelf

def sSep : ByteArray := ⟨#[47]⟩
def partsL (s : ByteArray) : List ByteArray := Lib.splitB sSep 0 (Lib.countB s sSep) s
theorem partsL_len (s : ByteArray) : (partsL s).length = Lib.countB s sSep + 1 := Lib.splitB_all sSep (by decide) 0 _ s rfl
def rightB (s : ByteArray) : Bool := decide (s.size ≤ 200) && decide ((partsL s).length ≤ 16) && (partsL s).all partOk
def hidB (s : ByteArray) : Bool := Lib.hasPrefix s.data.toList [95] || Lib.contains s.data.toList [47, 95]
def pageB (s : ByteArray) : Bool := rightB s && Lib.hasSuffix s.data.toList [46, 104, 116, 109, 108] && !(hidB s)
/-- the library's own variable holds a number -/
def MX (w : World) : Prop := ∃ m, w.cell? ⟨Tryd.split_ren.g 1, 0, none⟩ = some (.int .i64 m)
theorem blk_lt {w : World} {a : Addr} {v : Value} (h : w.cell? a = some v) : a.block < w.heap.size := by
  rcases Nat.lt_or_ge a.block w.heap.size with h1 | h1
  · exact h1
  · simp [World.cell?, Array.getElem?_eq_none h1] at h
theorem MX.below {w w' : World} (h : MX w) (hb : Below w.heap.size w w') : MX w' := by
  obtain ⟨m, hm⟩ := h
  exact ⟨m, (hb.cell (blk_lt hm)).trans hm⟩
theorem split_any (s : ByteArray) (w : World) (hm : MX w) (hs : s.size ≤ 1000000) : Calls Tryd.prog 58 #[.string s, .string sSep] w fun e w' => e = .returned (.slice (some ⟨w.heap.size, 0, none⟩) (partsL s).length (partsL s).length) ∧ w' = w.alloc (.cells ((partsL s).map Value.string).toArray 9) := by
  obtain ⟨m, hm⟩ := hm
  have := Any.strings_Split { Tryd.split with } Tryd.split.i9 s sSep m w (by omega) hm (by decide)
  rw [partsL_len]
  exact this
theorem contains_any (s sub : ByteArray) (w : World) (hm : MX w) (hs : s.size ≤ 1000000) : Calls Tryd.prog 61 #[.string s, .string sub] w fun e w' => e = .returned (.bool (Lib.contains s.data.toList sub.data.toList)) ∧ w' = w := by
  obtain ⟨m, hm⟩ := hm
  exact Any.strings_Contains { Tryd.contains with } s sub m w (by omega) hm

theorem takeSucc {α : Type} {l : List α} {i : Nat} {c : α} (h : l[i]? = some c) : l.take (i + 1) = l.take i ++ [c] := by
  rw [List.take_add_one, h]
  rfl

set_option maxRecDepth 100000 in
set_option maxHeartbeats 400000 in
theorem Right_any (s : ByteArray) (w : World) (hm : MX w) (hs : s.size ≤ 1000000) : Calls Tryd.prog 33 #[.string s] w fun e w' => e = .returned (.bool (rightB s)) ∧ Below w.heap.size w w' := by
  by_cases hl : 200 < s.size
  · have hr : rightB s = false := by unfold rightB; simp; omega
    rw [hr]
    have hd : decide ((200 : Int) < (s.size : Int)) = true := by simp; omega
    go_enter Tryd.func33, Tryd.ntmps33
    go_wp2
    go_ret
    exact ⟨rfl, Below.refl _ _⟩
  have hd : decide ((200 : Int) < (s.size : Int)) = false := by simp; omega
  have kS := Lib.hid (split_any s w hm hs)
  unfold sSep at kS
  have hlen : (partsL s).length ≤ 1000001 := by
    rw [partsL_len]
    have := Lib.countB_le sSep (by decide) s.size s (Nat.le_refl _)
    omega
  have hr : rightB s = (decide ((partsL s).length ≤ 16) && (partsL s).all partOk) := by
    have h2 : decide (s.size ≤ 200) = true := decide_eq_true (by omega)
    unfold rightB
    rw [h2, Bool.true_and]
  rw [hr]
  obtain ⟨L, hL⟩ : ∃ L, partsL s = L := ⟨_, rfl⟩
  rw [hL] at kS hlen
  rw [hL]
  clear hr hL
  have hb1 : Below w.heap.size w (w.alloc (.cells (L.map Value.string).toArray 9)) := (Below.refl _ w).alloc (Nat.le_refl _) _
  have hcell : ∀ i p, L[i]? = some p → (w.alloc (.cells (L.map Value.string).toArray 9)).cell? ⟨w.heap.size, i, none⟩ = some (.string p) := by
    intro i p hp
    rw [World.cell?_alloc_new]
    simp [hp]
  have HC := Lib.hid hcell
  clear hcell
  by_cases h16 : 16 < L.length
  · have hd2 : decide ((16 : Int) < (L.length : Int)) = true := by simp; omega
    have hr2 : (decide (L.length ≤ 16) && L.all partOk) = false := by simp; omega
    rw [hr2]
    clear hr2
    go_enter Tryd.func33, Tryd.ntmps33
    go_wp2_with fail
    refine kS.out.mono ?_
    rintro e w1 ⟨rfl, rfl⟩
    go_wp2
    go_ret
    exact ⟨rfl, hb1⟩
  · have hd2 : decide ((16 : Int) < (L.length : Int)) = false := by simp; omega
    have hr2 : (decide (L.length ≤ 16) && L.all partOk) = L.all partOk := by simp; omega
    rw [hr2]
    clear hr2
    go_enter Tryd.func33, Tryd.ntmps33
    go_wp2_with fail
    refine kS.out.mono ?_
    rintro e w1 ⟨rfl, rfl⟩
    obtain ⟨w1, hw1⟩ : ∃ w1, w.alloc (.cells (L.map Value.string).toArray 9) = w1 := ⟨_, rfl⟩
    have hsz : w1.heap.size = w.heap.size + 1 := by rw [← hw1]; simp
    rw [hw1] at hb1 HC
    rw [hw1]
    clear hw1
    go_wp2_with fail
    go_loopw [16] (fun iv wr => ∃ i : Nat, i ≤ L.length ∧ iv = .int .i64 i ∧ (L.take i).all partOk = true ∧ Below w1.heap.size w1 wr) (fun iv _ => L.length - (intOf iv).toNat)
    case atStart => exact ⟨0, by omega, rfl, by simp, Below.refl _ _⟩
    case round =>
      obtain ⟨i, hi, rfl, hall, hB⟩ := hrel
      by_cases hlt : i < L.length
      · have hl1 : decide ((i : Int) < (L.length : Int)) = true := by simp; omega
        obtain ⟨p, hp⟩ : ∃ p, L[i]? = some p := ⟨_, List.getElem?_eq_getElem hlt⟩
        have hx := (hB.cell (p := ⟨w.heap.size, i, none⟩) (by rw [hsz]; exact Nat.lt_succ_self _)).trans (HC.out i p hp)
        have kR := Lib.hid (rightPart_any p wr)
        cases hok : partOk p
        · rw [hok] at kR
          have HAL := Lib.hid (show L.all partOk = false by rw [List.all_eq_false]; exact ⟨p, List.mem_of_getElem? hp, by rw [hok]; decide⟩)
          clear hok hall
          go_wp2_with fail
          refine kR.out.mono ?_
          rintro e w2 ⟨rfl, hb2⟩
          have hfin : Below w.heap.size w w2 := hb1.trans ((hB.trans (hb2.mono hB.size)).mono hb1.size)
          go_wp2
          go_ret
          exact ⟨by rw [HAL.out]; rfl, hfin⟩
        · rw [hok] at kR
          have HAL := Lib.hid (show (L.take (i + 1)).all partOk = true by rw [takeSucc hp, List.all_append, hall]; simp [hok])
          clear hok hall
          go_wp2_with fail
          refine kR.out.mono ?_
          rintro e w2 ⟨rfl, hb2⟩
          have hB2 : Below w1.heap.size w1 w2 := hB.trans (hb2.mono hB.size)
          go_wp2
          go_roundw
          case rel => exact ⟨i + 1, by omega, by go_num, HAL.out, hB2⟩
          case measure => simp [intOf]; omega
      · have hl1 : decide ((i : Int) < (L.length : Int)) = false := by simp; omega
        obtain rfl : i = L.length := by omega
        rw [List.take_length] at hall
        have HAL := Lib.hid hall
        clear hall
        have hfin : Below w.heap.size w wr := hb1.trans (hB.mono hb1.size)
        go_wp2
        go_ret
        exact ⟨by rw [HAL.out]; rfl, hfin⟩

set_option maxHeartbeats 400000 in
theorem Hidden_any (s : ByteArray) (w : World) (hm : MX w) (hs : s.size ≤ 1000000) : Calls Tryd.prog 34 #[.string s] w fun e w' => e = .returned (.bool (hidB s)) ∧ w' = w := by
  have kP := Lib.hid (Any.strings_HasPrefix Tryd.hasPrefix s ⟨#[95]⟩ w)
  have kC := Lib.hid (contains_any s ⟨#[47, 95]⟩ w hm hs)
  have he : hidB s = (Lib.hasPrefix s.data.toList (⟨#[95]⟩ : ByteArray).data.toList || Lib.contains s.data.toList (⟨#[47, 95]⟩ : ByteArray).data.toList) := rfl
  rw [he]
  generalize Lib.hasPrefix s.data.toList (⟨#[95]⟩ : ByteArray).data.toList = b1 at kP ⊢
  generalize Lib.contains s.data.toList (⟨#[47, 95]⟩ : ByteArray).data.toList = b2 at kC ⊢
  cases b1
  · go_enter Tryd.func34, Tryd.ntmps34
    go_wp2_with fail
    refine kP.out.mono ?_
    rintro e w1 ⟨rfl, rfl⟩
    go_wp2_with fail
    refine kC.out.mono ?_
    rintro e w1 ⟨rfl, rfl⟩
    go_wp2
    go_ret
    exact ⟨rfl, rfl⟩
  · go_enter Tryd.func34, Tryd.ntmps34
    go_wp2_with fail
    refine kP.out.mono ?_
    rintro e w1 ⟨rfl, rfl⟩
    go_wp2
    go_ret
    exact ⟨rfl, rfl⟩

set_option maxHeartbeats 400000 in
theorem Page_any (s : ByteArray) (w : World) (hm : MX w) (hs : s.size ≤ 1000000) : Calls Tryd.prog 35 #[.string s] w fun e w' => e = .returned (.bool (pageB s)) ∧ Below w.heap.size w w' := by
  have kR := Lib.hid (Right_any s w hm hs)
  have kS := Lib.hid (fun w => Any.strings_HasSuffix Tryd.hasSuffix s ⟨#[46, 104, 116, 109, 108]⟩ w (by omega))
  have kH := Lib.hid (fun w (h : MX w) => Hidden_any s w h hs)
  have HM := Lib.hid hm
  have he : pageB s = (rightB s && Lib.hasSuffix s.data.toList (⟨#[46, 104, 116, 109, 108]⟩ : ByteArray).data.toList && !(hidB s)) := rfl
  rw [he]
  generalize rightB s = b1 at kR ⊢
  generalize Lib.hasSuffix s.data.toList (⟨#[46, 104, 116, 109, 108]⟩ : ByteArray).data.toList = b2 at kS ⊢
  generalize hidB s = b3 at kH ⊢
  clear hm he
  cases b1
  · go_enter Tryd.func35, Tryd.ntmps35
    go_wp2_with fail
    refine kR.out.mono ?_
    rintro e w1 ⟨rfl, hb1⟩
    go_wp2
    go_ret
    exact ⟨rfl, hb1⟩
  · cases b2
    · go_enter Tryd.func35, Tryd.ntmps35
      go_wp2_with fail
      refine kR.out.mono ?_
      rintro e w1 ⟨rfl, hb1⟩
      go_wp2_with fail
      refine (kS.out _).mono ?_
      rintro e w2 ⟨rfl, rfl⟩
      go_wp2
      go_ret
      exact ⟨rfl, hb1⟩
    · go_enter Tryd.func35, Tryd.ntmps35
      go_wp2_with fail
      refine kR.out.mono ?_
      rintro e w1 ⟨rfl, hb1⟩
      go_wp2_with fail
      refine (kS.out _).mono ?_
      rintro e w2 ⟨rfl, rfl⟩
      go_wp2_with fail
      refine (kH.out _ (HM.out.below hb1)).mono ?_
      rintro e w2 ⟨rfl, rfl⟩
      go_wp2
      go_ret
      exact ⟨rfl, hb1⟩

/-- up to the last stroke, with it -/
def dirB (s : ByteArray) : ByteArray := s.extract 0 (Lib.lastIndex s.data.toList [47] + 1).toNat
theorem last_bd (s : ByteArray) : -1 ≤ Lib.lastIndex s.data.toList [47] ∧ Lib.lastIndex s.data.toList [47] + 1 ≤ (s.size : Int) := by
  unfold Lib.lastIndex
  split
  · rename_i h
    simp only [List.length_cons, List.length_nil] at h
    rcases Lib.lastOcc_spec s.data.toList [47] (s.data.toList.length - [(47 : UInt8)].length + 1) with ⟨h1, _⟩ | ⟨i, h1, h2, _⟩
    · rw [h1]; omega
    · rw [h2]
      simp at h1 h ⊢
      omega
  · omega
set_option maxHeartbeats 400000 in
theorem Dir_any (s : ByteArray) (w : World) (hs : s.size ≤ 1000000) : Calls Tryd.prog 36 #[.string s] w fun e w' => e = .returned (.string (dirB s)) ∧ w' = w := by
  have kL := Lib.hid (Any.strings_LastIndex Tryd.lastIndex s ⟨#[47]⟩ (by omega) w)
  have hbd := last_bd s
  have he : dirB s = s.extract 0 (Lib.lastIndex s.data.toList (⟨#[47]⟩ : ByteArray).data.toList + 1).toNat := rfl
  rw [he]
  rw [show ([47] : List UInt8) = (⟨#[47]⟩ : ByteArray).data.toList from rfl] at hbd
  generalize Lib.lastIndex s.data.toList (⟨#[47]⟩ : ByteArray).data.toList = k at kL hbd ⊢
  obtain ⟨h1, h2⟩ := hbd
  have h3 : (0 : Int) ≤ k + 1 := by omega
  clear he
  go_enter Tryd.func36, Tryd.ntmps36
  go_wp2_with fail
  refine kL.out.mono ?_
  rintro e w1 ⟨rfl, rfl⟩
  go_wp2
  go_ret
  exact ⟨rfl, rfl⟩

end Go.Proofs.YtfkbjniodomdjaaDoor
