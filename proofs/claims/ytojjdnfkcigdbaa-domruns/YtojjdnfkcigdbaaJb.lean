/- The law of DomRuns. -/
import Derived.Test.YtojjdnfkcigdbaaJa
namespace Go.Proofs.Ytojjdnfkcigdbaa
open Go.RowKit Go.Shelf Go.Lib
attribute [local go_sem] Oper.semAt_some

set_option maxRecDepth 100000 in
set_option maxHeartbeats 4000000 in
theorem domRuns_law (ops : List OpD) (O : Option Addr) (co : Nat) (w : World) (hO : RdO w O ops) : Calls Try.prog 3 #[.slice O ops.length co] w fun e w' => e = .returned (.bool true) ∧ Below w.heap.size w w' := by
  have HO := Lib.hid hO
  clear hO
  go_enter Try.func3, Try.ntmps3
  go_wp2_with fail
  refine (head8_any w).mono ?_
  rintro e W1 ⟨rfl, hb1⟩
  have KP := Lib.hid (play_any ops O co W1 (HO.out.below hb1))
  have HB1 := Lib.hid hb1
  clear hb1
  go_wp2_with fail
  refine KP.out.mono ?_
  rintro e W2 ⟨D, v, ns, va, os, rfl, st⟩
  obtain ⟨Av, cv, rfl, _, _, _⟩ := st.own.sl
  have hl2 := st.len2
  have hle := st.len
  have KA := Lib.hid (agree_any st (by omega))
  have HST := Lib.hid st
  have HB2 : Hid (Below w.heap.size w W2) := Lib.hid (HB1.out.trans (st.bw.mono HB1.out.size))
  have hno : ∀ k : Nat, inN ns ((os.length + k : Nat) : Int) = false := fun k => by
    unfold inN
    rw [decide_eq_false (p := ((os.length + k : Nat) : Int) < (ns.length : Int)) (by omega), Bool.and_false]
  have HNO := Lib.hid hno
  have HNM := Lib.hid (show inN ns (-1) = false by unfold inN; rw [decide_eq_false (p := (0 : Int) ≤ -1) (by omega)]; rfl)
  clear st hno KP HB1 hl2
  go_wp2_with fail
  refine KA.out.mono ?_
  rintro e W3 ⟨rfl, hb3⟩
  have st3 := HST.out.below hb3
  have KK := kind_any (os.length : Int) W3 st3.doc
  rw [atN_none (by have := HNO.out 0; rwa [Nat.add_zero] at this)] at KK
  have KU := up_any (-1) W3 st3.doc
  rw [atN_none HNM.out] at KU
  have h5 : kdN ns ((os.length : Int) + 5) = [] := by
    have h6 := HNO.out 5
    rw [show ((os.length + 5 : Nat) : Int) = (os.length : Int) + 5 by omega] at h6
    exact atN_none h6
  have KD := Kids_any ((os.length : Int) + 5) W3 st3.doc (by rw [h5]; simp)
  rw [h5] at KD
  replace KK := Lib.hid KK
  replace KU := Lib.hid KU
  replace KD := Lib.hid KD
  have HB3 : Hid (Below w.heap.size w W3) := Lib.hid (HB2.out.trans (hb3.mono HB2.out.size))
  clear h5 st3 hb3 KA
  go_wp2_with fail
  refine KK.out.mono ?_
  rintro e w4 ⟨rfl, hw4⟩
  rw [hw4]
  clear hw4 w4
  go_wp2_with fail
  refine KU.out.mono ?_
  rintro e w4 ⟨rfl, hw4⟩
  rw [hw4]
  clear hw4 w4
  go_wp2_with fail
  refine KD.out.mono ?_
  rintro e W5 ⟨v5, rfl, ho5, hb5⟩
  obtain ⟨A5, c5, hv5⟩ := own_slice ho5
  subst hv5
  have HB5 : Hid (Below w.heap.size w W5) := Lib.hid (HB3.out.trans (hb5.mono HB3.out.size))
  clear ho5 hb5 KK KU KD
  go_wp2
  go_ret
  exact ⟨rfl, HB5.out⟩
end Go.Proofs.Ytojjdnfkcigdbaa
