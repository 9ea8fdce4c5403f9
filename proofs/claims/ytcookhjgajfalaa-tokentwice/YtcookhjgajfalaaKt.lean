/- The law TokenTwice, walked. -/
import Derived.Test.YtcookhjgajfalaaKe
import Derived.Test.YtcookhjgajfalaaKi
namespace Go.Proofs.Ytcookhjgajfalaa
open Go.RowKit Go.Lib

theorem GivesA.out {xs : List Atr} {w : World} {e : Ending} {w' : World} (h : GivesA xs w e w') : ∃ A cap, e = .returned (.slice A xs.length cap) ∧ RdA w' A xs ∧ (A = none → xs = []) ∧ Below w.heap.size w w' := by
  obtain ⟨v, rfl, ho, hb⟩ := h
  obtain ⟨A, cap, rfl, _, _, hn, hr⟩ := RdA.own ho
  refine ⟨A, cap, rfl, hr, fun e => ?_, hb⟩
  subst e
  rcases hr with h | ⟨b, off, h, _⟩
  · exact h
  · cases h
theorem Sz.once {xs : List Atr} (h : Sz xs) : Sz (once xs) := fun x hx => h x (once_mem hx)
theorem wout_len (xs : List Atr) (s : ByteArray) : (wout xs s).length ≤ xs.length := List.length_filter_le _ _

set_option maxHeartbeats 4000000 in
set_option maxRecDepth 100000 in
theorem tokenTwice_law (xs : List Atr) (s v : ByteArray) (A : Option Addr) (cap : Nat) (w : World) (h : RdA w A xs) (hz : Sz xs) (hmx : xs.length ≤ maxLen) (hA : A = none → xs = []) :
    Calls Try.prog 8 #[.slice A xs.length cap, .string s, .string v] w fun e w' => e = .returned (.bool true) ∧ Below w.heap.size w w' := by
  have H := Lib.hid h
  have HZ := Lib.hid hz
  have HA := Lib.hid hA
  have KH := Lib.hid (head7_any w)
  unfold maxLen at hmx
  clear h hz hA
  by_cases hl : xs.length ≤ 30
  · have hg : decide (30 < xs.length) = false := decide_eq_false (by omega)
    have hg2 : decide ((30 : Int) < (xs.length : Int)) = false := decide_eq_false (by omega)
    clear hmx
    go_enter Try.func8, Try.ntmps8
    go_wp2_with fail
    refine KH.out.mono ?_
    rintro e w1 ⟨rfl, hb1⟩
    have K1 := Lib.hid (set_any xs s v A cap w1 (H.out.below hb1) (by omega) HA.out)
    clear KH
    go_wp2_with fail
    refine K1.out.mono ?_
    rintro e w2 he
    obtain ⟨A2, c2, rfl, hr2, hn2, hb2⟩ := he.out
    have R2 := Lib.hid hr2
    have B2 := hb1.trans (hb2.mono hb1.size)
    have sl := setL_len xs s v
    have K2 := Lib.hid (get_any (setL xs s v) s A2 c2 w2 hr2 (by omega))
    rw [find_setL] at K2
    clear K1 he hr2 hn2 hb2 hb1
    go_wp2_with fail
    refine K2.out.mono ?_
    rintro e w3 ⟨rfl, hb3⟩
    have B3 := B2.trans (hb3.mono B2.size)
    have K3 := Lib.hid (without_any (setL xs s v) s A2 c2 w3 (R2.out.below hb3) (by omega))
    clear K2 hb3 B2 R2
    simp only [gotV]
    go_wp2_with fail
    refine K3.out.mono ?_
    rintro e w4 he
    obtain ⟨A4, c4, rfl, hr4, hn4, hb4⟩ := he.out
    have B4 := B3.trans (hb4.mono B3.size)
    have wl := wout_len (setL xs s v) s
    have K4 := Lib.hid (get_any (wout (setL xs s v) s) s A4 c4 w4 hr4 (by omega))
    rw [find_wout] at K4
    clear K3 he hr4 hn4 hb4 B3
    go_wp2_with fail
    refine K4.out.mono ?_
    rintro e w5 ⟨rfl, hb5⟩
    have B5 := B4.trans (hb5.mono B4.size)
    have K5 := Lib.hid (once_call xs A cap w5 (H.out.below B5) (by omega) HZ.out)
    clear K4 hb5 B4
    simp only [gotV]
    go_wp2_with fail
    refine K5.out.mono ?_
    rintro e w6 he
    obtain ⟨A6, c6, rfl, hr6, hn6, hb6⟩ := he.out
    have B6 := B5.trans (hb6.mono B5.size)
    have R6 := Lib.hid hr6
    have ol := once_len xs
    have K6 := Lib.hid (once_call (once xs) A6 c6 w6 hr6 (by omega) HZ.out.once)
    rw [once_once] at K6
    clear K5 he hr6 hn6 hb6 B5
    go_wp2_with fail
    refine K6.out.mono ?_
    rintro e w7 he
    obtain ⟨A7, c7, rfl, hr7, hn7, hb7⟩ := he.out
    have B7 := B6.trans (hb7.mono B6.size)
    have R7 := Lib.hid hr7
    have R67 := Lib.hid (R6.out.below hb7)
    have K7 := Lib.hid (get_any xs s A cap w7 (H.out.below B7) (by omega))
    clear K6 he hr7 hn7 hb7 B6 R6
    go_wp2_with fail
    refine K7.out.mono ?_
    rintro e w8 ⟨rfl, hb8⟩
    have B8 := B7.trans (hb8.mono B7.size)
    have R8 := Lib.hid (R7.out.below hb8)
    have R68 := Lib.hid (R67.out.below hb8)
    have K8 := Lib.hid (get_any (once xs) s A6 c6 w8 R68.out (by omega))
    rw [once_find] at K8
    obtain ⟨o, ho⟩ : ∃ o, xs.find? (hs s) = o := ⟨_, rfl⟩
    rw [ho] at K8
    rw [ho]
    obtain ⟨ov, hov⟩ : ∃ ov, (match o with | some x => x.2 | none => (⟨#[]⟩ : ByteArray)) = ov := ⟨_, rfl⟩
    obtain ⟨oz, hoz⟩ : ∃ oz, o.isSome = oz := ⟨_, rfl⟩
    have hgv : gotV o = .returned (.tuple #[.string ov, .bool oz]) := by rw [← hov, ← hoz]; rfl
    rw [hgv] at K8
    rw [hgv]
    clear K7 hb8 B7 R7 R67 hgv hoz hov ho
    go_wp2_with fail
    refine K8.out.mono ?_
    rintro e w9 ⟨rfl, hb9⟩
    have B9 := B8.trans (hb9.mono B8.size)
    have R9 := Lib.hid (R8.out.below hb9)
    have R69 := Lib.hid (R68.out.below hb9)
    have K9 := Lib.hid (same_refl (once xs) A6 A7 c6 c7 w9 R69.out R9.out (by omega))
    clear K8 hb9 B8 R8 R68
    have hvv : (v.toList == v.toList) = true := by simp
    have hoo : (ov.toList == ov.toList) = true := by simp
    have hzz : (oz == oz) = true := by simp
    go_wp2_with fail
    refine K9.out.mono ?_
    rintro e w10 ⟨rfl, q, rfl⟩
    have hbq : Below w9.heap.size w9 (w9.drewN q) := below_drewN (Below.refl _ _) q
    have B10 := B9.trans (hbq.mono B9.size)
    have K10 := Lib.hid (alike_call (once xs) (once xs) A6 A7 c6 c7 (w9.drewN q) (R69.out.below hbq) (R9.out.below hbq) (by omega) (by omega) HZ.out.once HZ.out.once)
    rw [alike_once] at K10
    clear K9 B9 R9 R69
    go_wp2_with fail
    refine K10.out.mono ?_
    rintro e w11 ⟨rfl, hb11⟩
    have B11 := B10.trans (hb11.mono B10.size)
    go_wp2
    go_ret
    exact ⟨rfl, B11⟩
  · have hg : decide (30 < xs.length) = true := decide_eq_true (by omega)
    have hg2 : decide ((30 : Int) < (xs.length : Int)) = true := decide_eq_true (by omega)
    go_enter Try.func8, Try.ntmps8
    go_wp2_with fail
    refine KH.out.mono ?_
    rintro e w1 ⟨rfl, hb1⟩
    go_wp2
    go_ret
    exact ⟨rfl, hb1⟩

end Go.Proofs.Ytcookhjgajfalaa
