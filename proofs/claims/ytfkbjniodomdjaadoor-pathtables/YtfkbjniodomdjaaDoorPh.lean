/- The document's example of layer 6. -/
import Derived.Test.YtfkbjniodomdjaaDoorPr
namespace Go.Proofs.YtfkbjniodomdjaaDoor
open Go.RowKit Go.Shelf

def sEx : ByteArray := ⟨#[97, 47, 95, 98, 46, 104, 116, 109, 108]⟩
def sAb : ByteArray := ⟨#[97, 47, 98]⟩
theorem ex_right : rightB sEx = true := by kernel_rfl
theorem ex_hid : hidB sEx = true := by kernel_rfl
theorem ex_page : pageB sEx = false := by kernel_rfl
theorem ex_dir : dirB sAb = ⟨#[97, 47]⟩ := by kernel_rfl

set_option maxHeartbeats 400000 in
theorem head6_any (w : World) (hm : MX w) : Calls Tryd.prog 8 #[] w fun e w' => e = .returned (.bool true) ∧ Below w.heap.size w w' := by
  have k1 := Right_any sEx w hm (by decide)
  have k2 := fun w (h : MX w) => Hidden_any sEx w h (by decide)
  have k3 := fun w (h : MX w) => Page_any sEx w h (by decide)
  have k4 := fun w => Dir_any sAb w (by decide)
  rw [ex_right] at k1
  rw [ex_hid] at k2
  rw [ex_page] at k3
  rw [ex_dir] at k4
  unfold sEx at k1 k2 k3
  unfold sAb at k4
  have K1 := Lib.hid k1
  have K2 := Lib.hid k2
  have K3 := Lib.hid k3
  have K4 := Lib.hid k4
  have HM := Lib.hid hm
  clear k1 k2 k3 k4 hm
  go_enter Tryd.func8, Tryd.ntmps8
  go_wp2_with fail
  refine K1.out.mono ?_
  rintro e w1 ⟨rfl, hb1⟩
  have h1 := HM.out.below hb1
  go_wp2_with fail
  refine (K2.out _ h1).mono ?_
  rintro e w2 ⟨rfl, rfl⟩
  go_wp2_with fail
  refine (K3.out _ h1).mono ?_
  rintro e w3 ⟨rfl, hb3⟩
  go_wp2_with fail
  refine (K4.out _).mono ?_
  rintro e w4 ⟨rfl, rfl⟩
  go_wp2
  go_ret
  exact ⟨rfl, hb1.trans (hb3.mono hb1.size)⟩

end Go.Proofs.YtfkbjniodomdjaaDoor
