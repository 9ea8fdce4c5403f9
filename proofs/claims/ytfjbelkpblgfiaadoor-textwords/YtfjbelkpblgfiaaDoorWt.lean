/- Contracts of text.Blank, Trim, Words, and of the law's own blank. -/
import Derived.Test.YtfjbelkpblgfiaaDoorGx
import Derived.Test.YtfjbelkpblgfiaaDoorShelf
namespace Go.Proofs.YtfjbelkpblgfiaaDoor
open Go.RowKit Go.Shelf
namespace Wx
def blankB (c : Int) : Bool := c == 9 || c == 10 || c == 12 || c == 13 || c == 32
def blankN (x : Nat) : Bool := blankB x
def cut : List UInt8 := [9, 10, 12, 13, 32]
end Wx

theorem blank1_any (c : Int) (w : World) : Calls Tryd.prog 6 #[.int .u8 c] w fun e w' => e = .returned (.bool (Wx.blankB c)) ∧ w = w' := by
  go_enter Tryd.func6, Tryd.ntmps6
  go_wp2
  all_goals
    go_ret
    refine ⟨?_, rfl⟩
    simp [Wx.blankB, *]
theorem Blank_any (c : Int) (w : World) : Calls Tryd.prog 13 #[.int .i32 c] w fun e w' => e = .returned (.bool (Wx.blankB c)) ∧ w' = w := by
  go_enter Tryd.func13, Tryd.ntmps13
  go_wp2
  all_goals
    go_ret
    refine ⟨?_, rfl⟩
    simp [Wx.blankB, *]
theorem Trim_any (s : ByteArray) (w : World) (hs : s.size ≤ 1000000) : Calls Tryd.prog 7 #[.string s] w fun e w' => e = .returned (.string ⟨(Lib.trimS s.data.toList Wx.cut).toArray⟩) ∧ Below w.heap.size w w' := by
  have hc : ∀ w, Calls Tryd.prog 11 #[.string s, .string ⟨#[9, 10, 12, 13, 32]⟩] w fun e w' => e = .returned (.string ⟨(Lib.trimS s.data.toList Wx.cut).toArray⟩) ∧ Below w.heap.size w w' := fun w =>
    Any.strings_Trim_laid Tryd.lays160 (by kernel_rfl) s ⟨#[9, 10, 12, 13, 32]⟩ w (by omega) (by decide) (ascii_of_all (by decide))
  have HC := Lib.hid hc
  clear hc
  go_enter Tryd.func7, Tryd.ntmps7
  go_wp2_with fail
  refine (HC.out _).mono ?_
  rintro e w1 ⟨rfl, hb1⟩
  go_wp2
  go_ret
  exact ⟨rfl, hb1⟩
def WordsPost (l : List ByteArray) (w : World) (e : Ending) (w' : World) : Prop :=
  ∃ A, e = .returned (.slice (some ⟨A, 0, none⟩) l.length l.length) ∧ w'.ownsRow w.heap.size 9 1 (.slice (some ⟨A, 0, none⟩) l.length l.length) l.length (l.map Value.string) ∧ Below w.heap.size w w'
theorem Words_any (s : ByteArray) (w : World) (hs : s.size ≤ 1000000) : Calls Tryd.prog 8 #[.string s] w (WordsPost (Lib.goFieldsP Wx.blankN s) w) := by
  have hc : ∀ w, Calls Tryd.prog 12 #[.string s, .func (.func 13) #[] #[]] w (WordsPost (Lib.goFieldsP Wx.blankN s) w) := fun w =>
    (Any.strings_FieldsFunc_runes Tryd.lays229 13 #[] (enters_of Tryd.func13 (by kernel_rfl) rfl) Wx.blankN s w (by omega) (fun W x _ _ => (show Calls Tryd.prog 13 #[.int .i32 (x : Int)] W _ from (Blank_any x W).mono fun e w' ⟨h1, h2⟩ => ⟨h1, 0, h2⟩)) (by kernel_rfl) (by kernel_rfl)).mono fun e w' ⟨A, h1, _, h2, h3⟩ => ⟨A, h1, h2, h3⟩
  have HC := Lib.hid hc
  clear hc
  go_enter Tryd.func8, Tryd.ntmps8
  go_wp2_with fail
  refine (HC.out _).mono ?_
  rintro e w1 ⟨A, rfl, ho, hb1⟩
  go_wp2
  go_ret
  exact ⟨A, rfl, ho, hb1⟩

end Go.Proofs.YtfjbelkpblgfiaaDoor
