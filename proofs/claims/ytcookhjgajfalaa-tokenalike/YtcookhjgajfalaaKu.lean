/- The law TokenAlike, walked. -/
import Derived.Test.YtcookhjgajfalaaKr
import Derived.Laws.BitsAllLaws
import Derived.RegionTactic
import Derived.ChangeAlike
namespace Go.Proofs.Ytcookhjgajfalaa
open Go.RowKit Go.Lib
attribute [local go_sem] Oper.semAt_some

theorem and8 (x : Int) : 0 ≤ bits .and .i64 x 255 ∧ bits .and .i64 x 255 ≤ 255 := by
  have h1 : (BitVec.ofInt 64 x &&& BitVec.ofInt 64 255).toNat ≤ 255 := by
    rw [BitVec.toNat_and]
    exact Nat.le_trans Nat.and_le_right (by decide)
  have h2 : bits .and .i64 x 255 = IntKind.i64.wrap ((BitVec.ofInt 64 x &&& BitVec.ofInt 64 255).toNat : Int) := rfl
  rw [h2]
  generalize (BitVec.ofInt 64 x &&& BitVec.ofInt 64 255).toNat = y at h1
  simp [IntKind.wrap, IntKind.bits, IntKind.signed]
  omega
/-- what the law has reckoned behind k rounds -/
def wnt (a b : List Atr) (k : Nat) : Bool := (a.length == b.length) && (a.take k).all (alk b)
theorem wnt_end (a b : List Atr) : wnt a b a.length = alike a b := by
  unfold wnt alike
  rw [List.take_of_length_le (Nat.le_refl _)]
theorem wnt_succ {a b : List Atr} {k : Nat} {x : Atr} (hx : a[k]? = some x) : wnt a b (k + 1) = (wnt a b k && alk b x) := by
  unfold wnt
  rw [take_snoc hx, List.all_append, Bool.and_assoc]
  simp
theorem rot_take {xs : List Atr} {t k : Nat} {y : Atr} (hk : k < xs.length) (hy : xs[(k + t) % xs.length]? = some y) : (rot xs t).take (k + 1) = (rot xs t).take k ++ [y] := by
  refine take_snoc ?_
  unfold rot
  rw [List.getElem?_map, List.getElem?_range hk]
  simp only [Option.map_some, List.getElem!_eq_getElem?_getD, hy]
  rfl

set_option maxHeartbeats 1500000 in
set_option maxRecDepth 100000 in
theorem tokenAlike_law (a b : List Atr) (A B : Option Addr) (ca cb : Nat) (turn : Int) (w : World) (ha : RdA w A a) (hb : RdA w B b) (hz : Sz a) (hz2 : Sz b) (hmx : a.length ≤ maxLen) (hmx2 : b.length ≤ maxLen) :
    Calls Try.prog 5 #[.slice A a.length ca, .slice B b.length cb, .int .i64 turn] w fun e w' => e = .returned (.bool true) ∧ Below w.heap.size w w' := by
  have H := Lib.hid ha
  have H2 := Lib.hid hb
  have HZ := Lib.hid hz
  have HZ2 := Lib.hid hz2
  have KH := Lib.hid (head7_any w)
  unfold maxLen at hmx hmx2
  clear ha hb hz hz2
  by_cases hl : a.length ≤ 30 ∧ b.length ≤ 30
  · obtain ⟨hl, hl2⟩ := hl
    have hg : decide (30 < a.length) = false := decide_eq_false (by omega)
    have hg2 : decide ((30 : Int) < (a.length : Int)) = false := decide_eq_false (by omega)
    have hg3 : decide (30 < b.length) = false := decide_eq_false (by omega)
    have hg4 : decide ((30 : Int) < (b.length : Int)) = false := decide_eq_false (by omega)
    clear hmx hmx2
    go_enter Try.func5, Try.ntmps5
    go_wp2_with fail
    refine KH.out.mono ?_
    rintro e w1 ⟨rfl, hb1⟩
    have HB1 := Lib.hid hb1
    clear KH hb1
    have hw0 : ((a.length : Int) == (b.length : Int)) = wnt a b 0 := by
      unfold wnt
      rw [List.take_zero, List.all_nil, Bool.and_true, Bool.eq_iff_iff, beq_iff_eq, beq_iff_eq]
      omega
    have hw1 : (a.length == b.length) = wnt a b 0 := by
      unfold wnt
      rw [List.take_zero, List.all_nil, Bool.and_true]
    obtain ⟨W0, hW0⟩ : ∃ W0, wnt a b 0 = W0 := ⟨_, rfl⟩
    rw [hW0] at hw0 hw1
    have HW0 := Lib.hid hW0
    clear hW0
    go_wp2
    clear hw0 hw1
    go_loopw [7, 31] (fun wv iv wr => ∃ k : Nat, k ≤ a.length ∧ iv = .int .i64 k ∧ wv = .bool (wnt a b k) ∧ Below w1.heap.size w1 wr) (fun _ iv _ => a.length - (intOf iv).toNat)
    case atStart => exact ⟨0, Nat.zero_le _, rfl, by rw [HW0.out], Below.refl _ _⟩
    case round =>
      obtain ⟨k, hk, rfl, rfl, hbr⟩ := hrel
      by_cases hlt : k < a.length
      · obtain ⟨x, hx⟩ := get_lt hlt
        have hws := wnt_succ (b := b) hx
        obtain ⟨wk, hwk⟩ : ∃ wk, wnt a b k = wk := ⟨_, rfl⟩
        rw [hwk] at hws
        rw [hwk]
        have HWS := Lib.hid hws
        obtain ⟨ba, offa, rfl, hbl, c0, c1⟩ := ((H.out.below HB1.out).below hbr).at_ hx
        have hne : ¬ wr.heap.size = ba := by omega
        have HBR := Lib.hid hbr
        have KF := Lib.hid (first_any b x.1 B cb (wr.alloc (.cells #[.string x.1, .string x.2] 39)) (((H2.out.below HB1.out).below hbr).below ((Below.refl _ _).alloc (Nat.le_refl _) _)) (by omega))
        clear hwk hws hx hbr
        cases hf : b.find? (hs x.1) with
        | none =>
          have hak : alk b x = false := by unfold alk; rw [hf]
          have hp := (find_none hf).2
          rw [hp] at KF
          rw [hak, Bool.and_false] at HWS
          clear hp hf hak
          go_wp2_with fail
          refine KF.out.mono ?_
          rintro e w2 ⟨rfl, hb2⟩
          have HB2 := Lib.hid ((HBR.out.alloc HBR.out.size _).trans (hb2.mono (by have := HBR.out.size; simp; omega)))
          clear hb2 KF c0 c1
          cases wk with
          | true =>
            go_wp2
            go_region
            go_wp2
            go_roundw
            case rel => exact ⟨k + 1, by omega, by go_num, by rw [HWS.out], below_drewN HB2.out 1⟩
            case measure => simp [intOf]; omega
          | false =>
            go_wp2
            go_region
            go_wp2
            go_roundw
            case rel => exact ⟨k + 1, by omega, by go_num, by rw [HWS.out], below_drewN HB2.out 1⟩
            case measure => simp [intOf]; omega
        | some y =>
          obtain ⟨hpl, hfs, hy⟩ := find_fst hf
          have hak : alk b x = (y.2.toList == x.2.toList) := by unfold alk; rw [hf]; rfl
          rw [hfs] at KF
          rw [hak] at HWS
          obtain ⟨p, hp⟩ : ∃ p, pl b x.1 = p := ⟨_, rfl⟩
          rw [hp] at KF hpl hy
          obtain ⟨bb, offb, rfl, hbl2, d0, d1⟩ := ((H2.out.below HB1.out).below HBR.out).at_ hy
          have HD1 := Lib.hid d1
          have hne2 : ¬ wr.heap.size = bb := by omega
          clear hp hf hak hfs hy d0 d1
          go_wp2_with fail
          refine KF.out.mono ?_
          rintro e w2 ⟨rfl, hb2⟩
          have HB2 := Lib.hid ((HBR.out.alloc HBR.out.size _).trans (hb2.mono (by have := HBR.out.size; simp; omega)))
          have hz2 : wr.heap.size + 1 ≤ w2.heap.size := by have := hb2.size; simp at this; omega
          have e0 : w2.cell? ⟨wr.heap.size, 1, none⟩ = some (.string x.2) := (hb2.cell (p := ⟨wr.heap.size, 1, none⟩) (by simp)).trans (by simp)
          have e1 : w2.cell? ⟨bb, offb + p * 2 + 1, none⟩ = some (.string y.2) := by
            rw [hb2.cell (p := ⟨bb, offb + p * 2 + 1, none⟩) (by simp; omega), World.cell?_alloc_lt _ _ _ (by exact hbl2)]
            exact HD1.out
          have hmx9 : max (p : Int) 0 = p := by omega
          have hge9 : decide ((0 : Int) ≤ (p : Int)) = true := decide_eq_true (by omega)
          have hlt9 : (p : Int) < (b.length : Int) := by omega
          clear hb2 KF c0 c1
          obtain ⟨q, hq⟩ : ∃ q, (y.2.toList == x.2.toList) = q := ⟨_, rfl⟩
          rw [hq] at HWS
          cases wk with
          | true =>
            cases q with
            | true =>
              go_wp2
              go_region
              go_wp2
              go_roundw
              case rel => exact ⟨k + 1, by omega, by go_num, by rw [HWS.out]; rfl, below_drewN HB2.out 1⟩
              case measure => simp [intOf]; omega
            | false =>
              go_wp2
              go_region
              go_wp2
              go_roundw
              case rel => exact ⟨k + 1, by omega, by go_num, by rw [HWS.out]; rfl, below_drewN HB2.out 1⟩
              case measure => simp [intOf]; omega
          | false =>
            go_wp2
            go_region
            go_wp2
            go_roundw
            case rel => exact ⟨k + 1, by omega, by go_num, by rw [HWS.out]; rfl, below_drewN HB2.out 1⟩
            case measure => simp [intOf]; omega
      · obtain rfl : k = a.length := by omega
        have B2 := Lib.hid (HB1.out.trans (hbr.mono HB1.out.size))
        have KO := Lib.hid (once_call a A ca wr (H.out.below B2.out) (by omega) HZ.out)
        rw [wnt_end]
        obtain ⟨al, hal⟩ : ∃ al, alike a b = al := ⟨_, rfl⟩
        rw [hal]
        have HAL := Lib.hid hal
        clear hal hbr HB1
        go_wp2_with fail
        refine KO.out.mono ?_
        rintro e w3 he
        obtain ⟨A3, c3, rfl, hr3, hn3, hb3⟩ := he.out
        have B3 := Lib.hid (B2.out.trans (hb3.mono B2.out.size))
        have R3 := Lib.hid hr3
        have HZ3 := Lib.hid HZ.out.once
        have ol := once_len a
        obtain ⟨O, hO⟩ : ∃ O, once a = O := ⟨_, rfl⟩
        have HRO := Lib.hid (fun t => alike_rot a t)
        rw [hO] at R3 HZ3 ol HRO
        rw [hO]
        obtain ⟨hm0, hm1⟩ := and8 turn
        obtain ⟨t, ht⟩ : ∃ t : Nat, bits .and .i64 turn 255 = (t : Int) := ⟨(bits .and .i64 turn 255).toNat, by omega⟩
        rw [ht] at hm0 hm1
        clear KO he hr3 hn3 hb3 B2 hO
        go_wp2
        go_loopw [12, 61] (fun v iv wq => ∃ k : Nat, k ≤ O.length ∧ iv = .int .i64 k ∧ Hid (wq.ownsRow w3.heap.size 39 2 v k (cellsA ((rot O t).take k))) ∧ Below w3.heap.size w3 wq) (fun _ iv _ => O.length - (intOf iv).toNat)
        case atStart =>
          refine ⟨0, Nat.zero_le _, rfl, Lib.hid ?_, (Below.refl _ _).alloc (Nat.le_refl _) _⟩
          exact World.ownsRow_made w3 #[] 0 (Nat.le_refl _) (Nat.zero_le _) (by simp)
        case round =>
          obtain ⟨k, hk, rfl, HO, hbq⟩ := hrel
          have hsq := hbq.size
          by_cases hlt : k < O.length
          · have hml : (k + t) % O.length < O.length := Nat.mod_lt _ (by omega)
            obtain ⟨y, hy⟩ := get_lt hml
            have HT := Lib.hid (rot_take hlt hy)
            obtain ⟨bb, offb, hA3, hbl2, d0, d1⟩ := (R3.out.below hbq).at_ hy
            have HA3 := Lib.hid hA3
            obtain ⟨j, hj⟩ : ∃ j, (k + t) % O.length = j := ⟨_, rfl⟩
            rw [hj] at hml d0 d1
            have hrem : ((k : Int) + (t : Int)) % (O.length : Int) = (j : Int) := by
              rw [← hj]
              simp
            have hne : ¬ wr.heap.size = bb := by omega
            have hn0 : ¬ ((O.length : Int) = 0) := by omega
            have hj1 : (j : Int) < (O.length : Int) := by omega
            clear hy hj hA3
            rw [HA3.out]
            go_wp2_with (at_builtin; refine wpList_append_rda rfl rfl w3.heap.size _ _ _ rfl (HO.out.alloc _) (some ⟨wr.heap.size, 0, none⟩) 1 1 rfl [y] rfl (rda_new y wr) (fun e => by cases e) (by omega) (by simp; omega) ?_)
            intro v' w4 hown hgrow hl4
            rw [← HT.out] at hown
            have HO4 := Lib.hid hown
            clear hown hl4 hrem
            go_wp2
            go_roundw
            case rel =>
              exact ⟨k + 1, by omega, by go_num, HO4, (hbq.alloc hbq.size _).grown hgrow (by simp; omega) (fun r e => (HO.out.lt r e).1)⟩
            case measure => simp [intOf]; omega
          · obtain rfl : k = O.length := by omega
            have hoo := HO.out
            rw [List.take_of_length_le (by rw [rot_len]; omega)] at hoo
            obtain ⟨A4, c4, rfl, hl4, _, _, hr4⟩ := RdA.own hoo
            have B4 := Lib.hid (B3.out.trans (hbq.mono B3.out.size))
            have R4 := Lib.hid hr4
            have R34 := Lib.hid (R3.out.below hbq)
            have KA := Lib.hid (alike_call a b A B ca cb wr (H.out.below B4.out) (H2.out.below B4.out) (by omega) (by omega) HZ.out HZ2.out)
            rw [HAL.out] at KA
            clear HO hoo hl4 hr4 B3 R3 hbq
            go_wp2_with fail
            refine KA.out.mono ?_
            rintro e w5 ⟨rfl, hb5⟩
            have B5 := Lib.hid (B4.out.trans (hb5.mono B4.out.size))
            have hzr : Sz (rot O t) := fun x hx => HZ3.out x ((rot_mem O t x).1 hx)
            have KB := (alike_call O (rot O t) A3 A4 c3 c4 w5 (R34.out.below hb5) (R4.out.below hb5) (by omega) (by rw [rot_len]; omega) HZ3.out hzr)
            rw [HRO.out t, rot_len] at KB
            have KB2 := Lib.hid KB
            have hll : (al == al) = true := by simp
            clear KA KB hb5 hzr
            go_wp2_with fail
            refine KB2.out.mono ?_
            rintro e w6 ⟨rfl, hb6⟩
            go_wp2
            go_ret
            exact ⟨rfl, B5.out.trans (hb6.mono B5.out.size)⟩
  · go_enter Try.func5, Try.ntmps5
    go_wp2_with fail
    refine KH.out.mono ?_
    rintro e w1 ⟨rfl, hb1⟩
    by_cases h1 : a.length ≤ 30
    · have hg : decide (30 < a.length) = false := decide_eq_false (by omega)
      have hg2 : decide ((30 : Int) < (a.length : Int)) = false := decide_eq_false (by omega)
      have hg3 : decide (30 < b.length) = true := decide_eq_true (by omega)
      have hg4 : decide ((30 : Int) < (b.length : Int)) = true := decide_eq_true (by omega)
      go_wp2
      go_ret
      exact ⟨rfl, hb1⟩
    · have hg : decide (30 < a.length) = true := decide_eq_true (by omega)
      have hg2 : decide ((30 : Int) < (a.length : Int)) = true := decide_eq_true (by omega)
      go_wp2
      go_ret
      exact ⟨rfl, hb1⟩

end Go.Proofs.Ytcookhjgajfalaa
