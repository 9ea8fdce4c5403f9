/- The table of windows-1252, laid as the program's text lays it. -/
import Derived.Test.YtdoglpaggmdnpaaDoorCn
import Derived.Test.YtdoglpaggmdnpaaDoorOp
import Derived.Test.YtdoglpaggmdnpaaDoorTie
import Derived.Test.YtdoglpaggmdnpaaDoorLd
import Derived.Test.YtdoglpaggmdnpaaDoorPo
import Derived.Test.YtdoglpaggmdnpaaDoorCards
import Derived.ProofKit
import Derived.LaidMore
import Derived.OpenShut
import Derived.Stop.Joined
import Derived.SevenTiedAt
namespace Go.Proofs.YtdoglpaggmdnpaaDoor
open Go.ChangeShapes Go.WideShapes Go.ChangeAt Go.WideMaps Go.WideElems Go.RowKit

theorem own : ownKnob Tryd.prog.godebug = none := by kernel_rfl
theorem laidOut : laidOutB Tryd.prog = true := by kernel_rfl
theorem gWin : Tryd.prog.globalNamed "woodcut/chars.windows" = some 0 := by kernel_rfl
theorem tWin : (Tryd.prog.globals[0]?).map (·.type) = some 44 := by kernel_rfl

abbrev laidW : List (String × DataW Unit) := [("woodcut/chars.windows", Rows.laid_woodcut_chars_windows)]
theorem laid_is : (Rows.laid_woodcut_chars_windows : DataW Unit) = .agg (Cx.windows.map fun n => .lit (.int .i32 n)) := rfl

theorem door_met (os : Os) (args : Array Value) : laidMetH Tryd.prog laidW ((World.doorLaid Tryd.prog 400 os).forCall (fun _ _ => 0) ⟨#[], args, []⟩).memory :=
  laidMetH_of_parts3 (fuel := 8) (laidMet_of_run' 8 (by kernel_rfl) (by kernel_rfl)) (by kernel_rfl) (by kernel_rfl)

theorem of_laid {W : World} (h : laidMetH Tryd.prog laidW W) : WinAt W := by
  rw [MakeChecks.laidMetH_plain _ _ _ (by kernel_rfl)] at h
  obtain ⟨ps, ⟨g0, t0, cs0, f0, p0, q0, hg0, ht0, hv0, hd0, _, _⟩, _, _⟩ := h
  obtain rfl := Option.some.inj (gWin.symm.trans hg0)
  obtain rfl := Option.some.inj (tWin.symm.trans ht0)
  refine ⟨?_, fun i hi => ?_⟩
  · have h1 := World.var?_cell hg0 hv0 0
    have h2 := ints_of_trod (zs := Cx.windows) Tryd.underlying44 Tryd.underlying21 (by kernel_rfl) hd0 0 (by decide)
    rw [← Array.getElem?_toList, h2] at h1
    exact block_lt h1
  · have h1 := World.var?_cell hg0 hv0 i
    have h2 := ints_of_trod (zs := Cx.windows) Tryd.underlying44 Tryd.underlying21 (by kernel_rfl) hd0 i hi
    rw [← Array.getElem?_toList, h2] at h1
    exact h1

end Go.Proofs.YtdoglpaggmdnpaaDoor
