/- The law TokenAttrs, walked. -/
import Derived.Test.YtcookhjgajfalaaKq
namespace Go.Proofs.Ytcookhjgajfalaa
open Go.RowKit Go.Lib
attribute [local go_sem] Oper.semAt_some

theorem rda_new (x : Atr) (W : World) : RdA (W.alloc (.cells #[.string x.1, .string x.2] 39)) (some ⟨W.heap.size, 0, none⟩) [x] := by
  refine .inr ⟨W.heap.size, 0, rfl, by simp, fun i y hi => ?_⟩
  cases i with
  | zero =>
    simp at hi
    subst hi
    exact ⟨by simp, by simp⟩
  | succ i => simp at hi
theorem rda_newN (x : Atr) (W : World) (n : Nat) (hn : n = W.heap.size) : RdA (W.alloc (.cells #[.string x.1, .string x.2] 39)) (some ⟨n, 0, none⟩) [x] := by
  subst hn
  exact rda_new x W
theorem AtI.start (xs : List Atr) (s : ByteArray) (W : World) : AtI xs s W 0 (.slice (some ⟨W.heap.size, 0, none⟩) 0 0) (.slice (some ⟨W.heap.size + 1, 0, none⟩) 0 0) ((W.alloc (.cells #[] 39)).alloc (.cells #[] 39)) := by
  refine ⟨⟨?_, ?_, ?_⟩, ((Below.refl _ W).alloc (Nat.le_refl _) _).alloc (by simp) _⟩
  · have := World.ownsRow_made (base := W.heap.size) (e := 39) (size := 2) W #[] 0 (Nat.le_refl _) (Nat.zero_le _) (by simp)
    simpa [wout, cellsA] using this.alloc _
  · have := World.ownsRow_made (base := W.heap.size) (e := 39) (size := 2) (W.alloc (.cells #[] 39)) #[] 0 (by simp) (Nat.zero_le _) (by simp)
    simpa [once, cellsA] using this
  · intro g e1 e2
    simp [Value.ownBlock] at e1 e2
    omega

set_option maxHeartbeats 3000000 in
set_option maxRecDepth 100000 in
theorem tokenAttrs_law (xs : List Atr) (s v : ByteArray) (A : Option Addr) (cap : Nat) (w : World) (h : RdA w A xs) (hz : Sz xs) (hmx : xs.length ≤ maxLen) (hA : A = none → xs = []) (hc0 : A = none → cap = 0) :
    Calls Try.prog 4 #[.slice A xs.length cap, .string s, .string v] w fun e w' => e = .returned (.bool true) ∧ Below w.heap.size w w' := by
  have H := Lib.hid h
  have HZ := Lib.hid hz
  have HA := Lib.hid hA
  have HC0 := Lib.hid (fun e => (⟨hc0 e, hA e⟩ : cap = 0 ∧ xs = []))
  have KH := Lib.hid (head7_any w)
  unfold maxLen at hmx
  clear h hz hA hc0
  by_cases hl : xs.length ≤ 40
  · have hg : decide (40 < xs.length) = false := decide_eq_false (by omega)
    have hg2 : decide ((40 : Int) < (xs.length : Int)) = false := decide_eq_false (by omega)
    clear hmx
    go_enter Try.func4, Try.ntmps4
    go_wp2_with fail
    refine KH.out.mono ?_
    rintro e w1 ⟨rfl, hb1⟩
    have HB1 := Lib.hid hb1
    clear KH hb1
    go_wp2_with (at_builtin; refine wpList_append_rda rfl rfl w1.heap.size _ 0 [] rfl (World.ownsRow_made w1 #[] 0 (Nat.le_refl _) (Nat.zero_le _) (by simp)) A xs.length cap rfl xs rfl ((H.out.below HB1.out).below ((Below.refl _ _).alloc (Nat.le_refl _) _)) HC0.out (by omega) (by simp) ?_)
    intro vW w2 hoW hgW hlW
    obtain ⟨B, cB, rfl, _, _, hBn, hrB⟩ := RdA.own hoW
    have hBe : B = none → cB = 0 ∧ xs = [] := fun e => ⟨hBn e, by
      rcases hrB with h | ⟨b, off, h, _⟩
      · exact h
      · rw [e] at h; cases h⟩
    have b2 : Below w1.heap.size w1 w2 := ((Below.refl _ w1).alloc (Nat.le_refl _) _).grown hgW (by simp) (by intro k hk; simp [Value.ownBlock] at hk; omega)
    have B2 := Lib.hid (HB1.out.trans (b2.mono HB1.out.size))
    have HBE := Lib.hid hBe
    have RB := Lib.hid hrB
    have K1 := Lib.hid (get_any xs s A cap w2 (H.out.below B2.out) (by omega))
    clear hoW hgW hlW hBn hrB b2 HB1 hBe
    cases hf : xs.find? (hs s) with

    | none =>
      have hp := (find_none hf)
      have hf2 := Lib.hid hf
      have hS : setL xs s v = xs ++ [(s, v)] := if_neg hp.1
      have HS := Lib.hid hS
      rw [hf] at K1
      have ww : gotV none = .returned (.tuple #[.string ⟨#[]⟩, .bool false]) := rfl
      rw [ww] at K1
      have K2 := Lib.hid (fun (W : World) (hb : Below w.heap.size w W) => first_any xs s A cap W (H.out.below hb) (by omega))
      rw [hp.2] at K2
      clear ww hf hp hS
      go_wp2_with fail
      refine K1.out.mono ?_
      rintro e w3 ⟨rfl, hb3⟩
      have B3 := Lib.hid (B2.out.trans (hb3.mono B2.out.size))
      have RB3 := Lib.hid (RB.out.below hb3)
      clear K1 hb3 B2 RB
      go_wp2_with fail
      refine (K2.out w3 B3.out).mono ?_
      rintro e w4 ⟨rfl, hb4⟩
      have B4 := Lib.hid (B3.out.trans (hb4.mono B3.out.size))
      have RB4 := Lib.hid (RB3.out.below hb4)
      clear K2 hb4 B3 RB3
      go_wp2_with (at_builtin; refine wpList_append_rda rfl rfl w4.heap.size _ 0 [] rfl (World.ownsRow_made w4 #[] 0 (Nat.le_refl _) (Nat.zero_le _) (by simp)) B xs.length cB rfl xs rfl (RB4.out.below ((Below.refl _ _).alloc (Nat.le_refl _) _)) HBE.out (by omega) (by simp) ?_)
      intro vS w5 hoS hgS hlS
      have b5 : Below w4.heap.size w4 w5 := ((Below.refl _ w4).alloc (Nat.le_refl _) _).grown hgS (by simp) (by intro k hk; simp [Value.ownBlock] at hk; omega)
      have B5 := Lib.hid (B4.out.trans (b5.mono B4.out.size))
      have RB5 := Lib.hid (RB4.out.below b5)
      have HOS := Lib.hid hoS
      have hz5 := b5.size
      obtain ⟨S0, sn, sc, hvS⟩ : ∃ S0 sn sc, vS = .slice S0 sn sc := by
        obtain ⟨a, c, e, _⟩ := RdA.own hoS
        exact ⟨_, _, _, e⟩
      subst hvS
      have HB45 := Lib.hid b5
      clear hoS hgS hlS b5
      go_wp2_with (at_builtin; refine wpList_append_rda rfl rfl w4.heap.size _ _ _ rfl (HOS.out.alloc _) (some ⟨w5.heap.size, 0, none⟩) 1 1 rfl [(s, v)] rfl (rda_new (s, v) w5) (fun e => by cases e) (by omega) (by simp; omega) ?_)
      intro vT W6 hoT hgT hlT
      rw [← HS.out] at hoT
      obtain ⟨AS, cS, hvT, hlS, _, _, hrS⟩ := RdA.own hoT
      rw [← hlS] at hvT
      subst hvT
      have b6 : Below w4.heap.size w5 W6 := ((Below.refl _ w5).alloc (by omega) _).grown hgT (by simp; omega) (fun g e => (HOS.out.lt g e).1)
      have b46 := HB45.out.trans b6
      have HB6 := Lib.hid (B4.out.trans (b46.mono B4.out.size))
      have RB6 := Lib.hid (RB4.out.below b46)
      have RS6 := Lib.hid hrS
      clear hoT hgT hlT hlS hrS b6 b46 HB45 HOS B4 RB4 B5 RB5 HS hz5
      go_wp2

      -- the loop
      have B6 := HB6.out
      go_loopw [12, 13, 79] (fun r o iv wr => ∃ k : Nat, k ≤ xs.length ∧ iv = .int .i64 k ∧ Hid (AtI xs s W6 k r o wr)) (fun _ _ iv _ => xs.length - (intOf iv).toNat)
      case atStart => exact ⟨0, Nat.zero_le _, rfl, Lib.hid (AtI.start xs s W6)⟩
      case round =>
        obtain ⟨k, hk, rfl, HI⟩ := hrel
        have hbr := HI.out.2
        by_cases hlt : k < xs.length
        · obtain ⟨x2, hx2⟩ := get_lt hlt
          have HX := Lib.hid hx2
          have HT := Lib.hid (by rw [take_snoc hx2, wout_snoc] : wout (xs.take (k + 1)) s = wout (xs.take k) s ++ if hs s x2 then [] else [x2])
          have HT2 := Lib.hid (once_take hx2)
          have hps := pl_le_self hx2
          have hfst : fst xs x2.1 = pl xs x2.1 := fst_hit (by omega)
          obtain ⟨b9, off9, hB9, hbl9, c0, c1⟩ := (RB6.out.below hbr).at_ hx2
          have hole : (once (xs.take k)).length ≤ k := Nat.le_trans (once_len _) (List.length_take_le _ _)
          have hwle : (wout (xs.take k) s).length ≤ k := Nat.le_trans (wout_len _ _) (List.length_take_le _ _)
          have hne : ¬ wr.heap.size = b9 := by omega
          have RW0 := HI.out.1
          have HRW0 := Lib.hid RW0
          have HBR := Lib.hid hbr
          have hszr := hbr.size
          have KF := Lib.hid (fun (W : World) (hb : Below W6.heap.size W6 W) => first_any xs x2.1 B cB W (RB6.out.below hb) (by omega))
          rw [hfst] at KF
          obtain ⟨p, hp⟩ : ∃ p, pl xs x2.1 = p := ⟨_, rfl⟩
          rw [hp] at KF HT2 hps
          subst hB9
          clear hx2 hfst hp hbr RW0
          cases hq : (x2.1.toList == s.toList) with
          | true =>
            have hw1 := HT.out
            rw [show hs s x2 = true from hq, if_pos rfl, List.append_nil] at hw1
            have RWa : Rws W6.heap.size u12 u13 (wout (xs.take (k + 1)) s) (once (xs.take k)) (wr.alloc (.cells #[.string x2.1, .string x2.2] 39)) := by
              rw [hw1]; exact HRW0.out.alloc _
            have BA := HBR.out.alloc HBR.out.size (.cells #[.string x2.1, .string x2.2] 39)
            have hcp : (wr.alloc (.cells #[.string x2.1, .string x2.2] 39)).cell? ⟨wr.heap.size, 0, none⟩ = some (.string x2.1) ∧ (wr.alloc (.cells #[.string x2.1, .string x2.2] 39)).cell? ⟨wr.heap.size, 1, none⟩ = some (.string x2.2) := ⟨by simp, by simp⟩
            have hzA : wr.heap.size < (wr.alloc (.cells #[.string x2.1, .string x2.2] 39)).heap.size := by simp
            have HRW := Lib.hid RWa
            have HBA := Lib.hid BA
            have HCP := Lib.hid hcp
            have HZA := Lib.hid hzA
            clear hw1 RWa BA hcp hzA HT HRW0
            go_wp2_with fail

            refine (KF.out (wr.alloc (.cells #[.string x2.1, .string x2.2] 39)) HBA.out).mono ?_
            rintro e Wf ⟨rfl, hbf⟩
            have RWf := HRW.out.below hbf
            have BF := HBA.out.trans (hbf.mono HBA.out.size)
            have f0 := (hbf.cell (p := ⟨wr.heap.size, 0, none⟩) HZA.out).trans HCP.out.1
            have f1 := (hbf.cell (p := ⟨wr.heap.size, 1, none⟩) HZA.out).trans HCP.out.2
            have hzF : wr.heap.size < Wf.heap.size := Nat.lt_of_lt_of_le HZA.out hbf.size
            have HRF := Lib.hid RWf
            have HBF := Lib.hid BF
            have hszF := BF.size
            clear KF HRW HBA hbf RWf BF HCP HZA
            by_cases hpk : p = k
            · have ht := HT2.out
              rw [if_pos hpk] at ht
              have HT3 := Lib.hid ht
              clear ht HT2
              subst hpk
              go_wp2_with (at_builtin; refine wpList_append_rda rfl rfl W6.heap.size _ _ _ rfl (HRF.out.alloc _).oo (some ⟨Wf.heap.size, 0, none⟩) 1 1 rfl [x2] rfl (rda_new x2 Wf) (fun e => by cases e) (by omega) (by simp; omega) ?_)
              intro o2 Wz ho2 hg2 hl2
              have HO2 := Lib.hid ho2
              have HG2 := Lib.hid hg2
              have HL2 := Lib.hid hl2
              clear ho2 hg2 hl2
              go_wp2
              go_roundw
              case rel =>
                refine ⟨p + 1, by omega, by go_num, Lib.hid ⟨?_, ?_⟩⟩
                · refine (HRF.out.alloc _).growO ?_ HG2.out (by simpa using HL2.out)
                  rw [HT3.out, List.length_append]
                  exact HO2.out
                · exact (HBF.out.alloc HBF.out.size _).grown HG2.out (by simp; omega) (fun g e => (HRF.out.oo.lt g e).1)
              case measure => simp [intOf]; omega
            · have ht := HT2.out
              rw [if_neg hpk] at ht
              have HT3 := Lib.hid ht
              have hd : ((p : Int) == (k : Int)) = false := by simp; omega
              have hd2 : (p == k) = false := by simp; omega
              clear ht HT2 hpk
              go_wp2
              go_roundw
              case rel =>
                refine ⟨k + 1, by omega, by go_num, Lib.hid ⟨?_, HBF.out⟩⟩
                rw [HT3.out]
                exact HRF.out
              case measure => simp [intOf]; omega

          | false =>
            have hw1 := HT.out
            rw [show hs s x2 = false from hq, if_neg (by simp)] at hw1
            have HW1 := Lib.hid hw1
            clear hw1
            go_wp2_with (at_builtin; refine wpList_append_rda rfl rfl W6.heap.size _ _ _ rfl ((HRW0.out.alloc _).alloc _).rr (some ⟨wr.heap.size + 1, 0, none⟩) 1 1 rfl [x2] rfl (rda_newN x2 (wr.alloc (.cells #[.string x2.1, .string x2.2] 39)) (wr.heap.size + 1) (by simp)) (fun e => by cases e) (by omega) (by simp; omega) ?_)
            intro r2 Wa ho1 hg1 hl1
            rw [← HW1.out] at ho1
            have RWa : Rws W6.heap.size r2 u13 (wout (xs.take (k + 1)) s) (once (xs.take k)) Wa := ((HRW0.out.alloc _).alloc _).growR (by rw [HW1.out, List.length_append, ← HW1.out]; exact ho1) hg1 (by simpa using hl1)
            have hrl := fun g e => (HRW0.out.rr.lt g e)
            have BA : Below W6.heap.size W6 Wa := ((HBR.out.alloc HBR.out.size _).alloc (by simp; omega) _).grown hg1 (by simp; omega) (fun g e => (hrl g e).1)
            have hcp : Wa.cell? ⟨wr.heap.size, 0, none⟩ = some (.string x2.1) ∧ Wa.cell? ⟨wr.heap.size, 1, none⟩ = some (.string x2.2) := by
              have hfar := fun j => hg1.cell_far (⟨wr.heap.size, j, none⟩ : Addr) (by simp; omega) (fun e => by have := (hrl _ e.symm).2; simp at this)
              exact ⟨(hfar 0).trans (by simp), (hfar 1).trans (by simp)⟩
            have hzA : wr.heap.size < Wa.heap.size := by have := hg1.size; simp at this; omega
            have HRW := Lib.hid RWa
            have HBA := Lib.hid BA
            have HCP := Lib.hid hcp
            have HZA := Lib.hid hzA
            clear RWa BA hcp hzA HT HRW0 hrl ho1 hg1 hl1 HW1
            have cp0 := HCP.out.1
            have cp1 := HCP.out.2
            go_wp2_with fail

            refine (KF.out (Wa) HBA.out).mono ?_
            rintro e Wf ⟨rfl, hbf⟩
            have RWf := HRW.out.below hbf
            have BF := HBA.out.trans (hbf.mono HBA.out.size)
            have f0 := (hbf.cell (p := ⟨wr.heap.size, 0, none⟩) HZA.out).trans HCP.out.1
            have f1 := (hbf.cell (p := ⟨wr.heap.size, 1, none⟩) HZA.out).trans HCP.out.2
            have hzF : wr.heap.size < Wf.heap.size := Nat.lt_of_lt_of_le HZA.out hbf.size
            have HRF := Lib.hid RWf
            have HBF := Lib.hid BF
            have hszF := BF.size
            clear KF HRW HBA hbf RWf BF HCP HZA
            by_cases hpk : p = k
            · have ht := HT2.out
              rw [if_pos hpk] at ht
              have HT3 := Lib.hid ht
              clear ht HT2
              subst hpk
              go_wp2_with (at_builtin; refine wpList_append_rda rfl rfl W6.heap.size _ _ _ rfl (HRF.out.alloc _).oo (some ⟨Wf.heap.size, 0, none⟩) 1 1 rfl [x2] rfl (rda_new x2 Wf) (fun e => by cases e) (by omega) (by simp; omega) ?_)
              intro o2 Wz ho2 hg2 hl2
              have HO2 := Lib.hid ho2
              have HG2 := Lib.hid hg2
              have HL2 := Lib.hid hl2
              clear ho2 hg2 hl2
              go_wp2
              go_roundw
              case rel =>
                refine ⟨p + 1, by omega, by go_num, Lib.hid ⟨?_, ?_⟩⟩
                · refine (HRF.out.alloc _).growO ?_ HG2.out (by simpa using HL2.out)
                  rw [HT3.out, List.length_append]
                  exact HO2.out
                · exact (HBF.out.alloc HBF.out.size _).grown HG2.out (by simp; omega) (fun g e => (HRF.out.oo.lt g e).1)
              case measure => simp [intOf]; omega
            · have ht := HT2.out
              rw [if_neg hpk] at ht
              have HT3 := Lib.hid ht
              have hd : ((p : Int) == (k : Int)) = false := by simp; omega
              have hd2 : (p == k) = false := by simp; omega
              clear ht HT2 hpk
              go_wp2
              go_roundw
              case rel =>
                refine ⟨k + 1, by omega, by go_num, Lib.hid ⟨?_, HBF.out⟩⟩
                rw [HT3.out]
                exact HRF.out
              case measure => simp [intOf]; omega

        · obtain rfl : k = xs.length := by omega
          obtain ⟨hrw, hbr⟩ := HI.out
          rw [List.take_of_length_le (Nat.le_refl _)] at hrw
          obtain ⟨Ar, cr, rfl, hlr, _, hnr, hrr⟩ := RdA.own hrw.rr
          obtain ⟨Ao, co, rfl, hlo, _, hno, hro⟩ := RdA.own hrw.oo
          have RR := Lib.hid hrr
          have RO := Lib.hid hro
          have B7 := Lib.hid (B6.trans (hbr.mono B6.size))
          have RW7 := Lib.hid (RB6.out.below hbr)
          have RS7 := Lib.hid (RS6.out.below hbr)
          have sl := setL_len xs s v
          have wl := wout_len xs s
          have ol := once_len xs
          clear HI hrw hbr hlr hnr hrr hlo hno hro B6 HB6 RB6 RS6
          have KT := Lib.hid (fun a b c d e f g i j => tget_any xs s A cap wr (H.out.below B7.out) (by omega) a b c d e f g i j)
          rw [hf2.out] at KT
          have ww : gotV (none) = .returned (.tuple #[.string (⟨#[]⟩ : ByteArray), .bool false]) := rfl
          rw [ww] at KT
          clear ww
          have hvv : (((⟨#[]⟩ : ByteArray) : ByteArray).toList == ((⟨#[]⟩ : ByteArray) : ByteArray).toList) = true := by simp
          have hzz : ((false : Bool) == false) = true := by simp
          go_wp2_with fail
          refine (KT.out _ _ _ _ _ _ _ _ _).mono ?_
          rintro e w8 ⟨rfl, hb8⟩
          have B8 := Lib.hid (B7.out.trans (hb8.mono B7.out.size))
          have K8 := Lib.hid (set_any xs s v A cap w8 (H.out.below B8.out) (by omega) HA.out)
          have RR8 := Lib.hid (RR.out.below hb8)
          have RO8 := Lib.hid (RO.out.below hb8)
          have RW8 := Lib.hid (RW7.out.below hb8)
          have RS8 := Lib.hid (RS7.out.below hb8)
          clear KT hb8 B7 RR RO RW7 RS7
          go_wp2_with fail
          refine K8.out.mono ?_
          rintro e w9 he
          obtain ⟨A9, c9, rfl, hr9, hn9, hb9⟩ := he.out
          have B9 := Lib.hid (B8.out.trans (hb9.mono B8.out.size))
          have K9 := Lib.hid (same_refl (setL xs s v) A9 AS c9 cS w9 hr9 (RS8.out.below hb9) (by omega))
          have RR9 := Lib.hid (RR8.out.below hb9)
          have RO9 := Lib.hid (RO8.out.below hb9)
          have RW9 := Lib.hid (RW8.out.below hb9)
          clear K8 he hb9 hr9 hn9 B8 RR8 RO8 RW8 RS8
          go_wp2_with fail
          refine K9.out.mono ?_
          rintro e w9b ⟨rfl, q9, rfl⟩
          have hq9 : Below w9.heap.size w9 (w9.drewN q9) := below_drewN (Below.refl _ _) q9
          obtain ⟨wA, hwA⟩ : ∃ wA, w9.drewN q9 = wA := ⟨_, rfl⟩
          rw [hwA] at hq9 ⊢
          have BA := Lib.hid (B9.out.trans (hq9.mono B9.out.size))
          have KA := Lib.hid (without_any xs s A cap wA (H.out.below BA.out) (by omega))
          have RRA := Lib.hid (RR9.out.below hq9)
          have ROA := Lib.hid (RO9.out.below hq9)
          have RWA := Lib.hid (RW9.out.below hq9)
          clear K9 hwA hq9 B9 RR9 RO9 RW9
          go_wp2_with fail
          refine KA.out.mono ?_
          rintro e wB he
          obtain ⟨AB, cBB, rfl, hrB, hnB, hbB⟩ := he.out
          have BB := Lib.hid (BA.out.trans (hbB.mono BA.out.size))
          have KB := Lib.hid (same_refl (wout xs s) AB Ar cBB cr wB hrB (RRA.out.below hbB) (by omega))
          have ROB := Lib.hid (ROA.out.below hbB)
          have RWB := Lib.hid (RWA.out.below hbB)
          clear KA he hrB hnB hbB BA RRA ROA RWA
          go_wp2_with fail
          refine KB.out.mono ?_
          rintro e wBb ⟨rfl, qB, rfl⟩
          have hqB : Below wB.heap.size wB (wB.drewN qB) := below_drewN (Below.refl _ _) qB
          obtain ⟨wC, hwC⟩ : ∃ wC, wB.drewN qB = wC := ⟨_, rfl⟩
          rw [hwC] at hqB ⊢
          have BC := Lib.hid (BB.out.trans (hqB.mono BB.out.size))
          have KC := Lib.hid (once_call xs A cap wC (H.out.below BC.out) (by omega) HZ.out)
          have ROC := Lib.hid (ROB.out.below hqB)
          have RWC := Lib.hid (RWB.out.below hqB)
          clear KB hwC hqB BB ROB RWB
          go_wp2_with fail
          refine KC.out.mono ?_
          rintro e wD he
          obtain ⟨AD, cD, rfl, hrD, hnD, hbD⟩ := he.out
          have BD := Lib.hid (BC.out.trans (hbD.mono BC.out.size))
          have KD := Lib.hid (same_refl (once xs) AD Ao cD co wD hrD (ROC.out.below hbD) (by omega))
          have RWD := Lib.hid (RWC.out.below hbD)
          clear KC he hrD hnD hbD BC ROC RWC
          go_wp2_with fail
          refine KD.out.mono ?_
          rintro e wDb ⟨rfl, qD, rfl⟩
          have hqD : Below wD.heap.size wD (wD.drewN qD) := below_drewN (Below.refl _ _) qD
          obtain ⟨wE, hwE⟩ : ∃ wE, wD.drewN qD = wE := ⟨_, rfl⟩
          rw [hwE] at hqD ⊢
          have BE := Lib.hid (BD.out.trans (hqD.mono BD.out.size))
          have KE := Lib.hid (same_refl xs A B cap cB wE (H.out.below BE.out) (RWD.out.below hqD) (by omega))
          clear KD hwE hqD BD RWD
          go_wp2_with fail
          refine KE.out.mono ?_
          rintro e wF ⟨rfl, qE, rfl⟩
          go_wp2
          go_ret
          exact ⟨rfl, below_drewN BE.out _⟩

    | some x =>
      obtain ⟨hlt0, hp, hx⟩ := (find_fst hf)
      have hf2 := Lib.hid hf
      have hS : setL xs s v = xs.set (pl xs s) (s, v) := if_pos hlt0
      obtain ⟨x', hx', hn⟩ := pl_at hlt0
      rw [hx] at hx'
      obtain rfl := Option.some.inj hx'
      rw [hf] at K1
      have ww : gotV (some x) = .returned (.tuple #[.string x.2, .bool true]) := rfl
      rw [ww] at K1
      have K2 := Lib.hid (fun (W : World) (hb : Below w.heap.size w W) => first_any xs s A cap W (H.out.below hb) (by omega))
      rw [hp] at K2
      obtain ⟨P, hP⟩ : ∃ P, pl xs s = P := ⟨_, rfl⟩
      rw [hP] at K2 hlt0 hx hS
      have hcs := cellsA_set xs P x v hx
      rw [hn] at hcs
      have HS := Lib.hid hS
      have HCS := Lib.hid hcs
      have HX0 := Lib.hid hx
      clear ww hf hp hS hcs hx hn hx' hP
      go_wp2_with fail
      refine K1.out.mono ?_
      rintro e w3 ⟨rfl, hb3⟩
      have B3 := Lib.hid (B2.out.trans (hb3.mono B2.out.size))
      have RB3 := Lib.hid (RB.out.below hb3)
      clear K1 hb3 B2 RB
      go_wp2_with fail
      refine (K2.out w3 B3.out).mono ?_
      rintro e w4 ⟨rfl, hb4⟩
      have B4 := Lib.hid (B3.out.trans (hb4.mono B3.out.size))
      have RB4 := Lib.hid (RB3.out.below hb4)
      obtain ⟨bA, offA, rfl, hblA, a0, a1⟩ := (H.out.below B4.out).at_ HX0.out
      have hxx : (x.2.toList == x.2.toList) = true := by simp
      clear K2 hb4 B3 RB3
      go_wp2_with (at_builtin; refine wpList_append_rda rfl rfl w4.heap.size _ 0 [] rfl (World.ownsRow_made w4 #[] 0 (Nat.le_refl _) (Nat.zero_le _) (by simp)) B xs.length cB rfl xs rfl (RB4.out.below ((Below.refl _ _).alloc (Nat.le_refl _) _)) HBE.out (by omega) (by simp) ?_)
      intro vS w5 hoS hgS hlS
      have b5 : Below w4.heap.size w4 w5 := ((Below.refl _ w4).alloc (Nat.le_refl _) _).grown hgS (by simp) (by intro k hk; simp [Value.ownBlock] at hk; omega)
      obtain ⟨AS0, cS, hvS, hlS, _, _, hrS⟩ := RdA.own hoS
      subst hvS
      obtain ⟨gS, offS, rfl, hblS, s0, s1⟩ := hrS.at_ HX0.out
      have hoff : offS = 0 := by
        rcases hoS.2 with ⟨e, _⟩ | ⟨g', cap', cur, e, _⟩
        · cases e
        · injection e with e1 e2 e3
          injection e1 with e1
          injection e1
      have hfz : ∀ j, w5.frozen? ⟨gS, j, none⟩ = false := by
        intro j
        rw [hoff] at hoS
        exact hoS.frozenAt j
      have f9 := hfz (offS + P * 2 + 1)
      have HOF := Lib.hid hoff
      have HOS := Lib.hid hoS
      have HB45 := Lib.hid b5
      clear hoS hgS hlS hrS b5 hfz hoff s0 a0 a1 hblA hblS hxx
      go_wp2
      obtain ⟨W6, hW6⟩ : ∃ W6, w5.setCell ⟨gS, offS + P * 2 + 1, none⟩ (.string v) = W6 := ⟨_, rfl⟩
      have hst := HOS.out
      rw [HOF.out] at hst
      have hst2 := hst.stored (P * 2 + 1) (.string v)
      have hb56 : Below w4.heap.size w5 W6 := by
        rw [← hW6, HOF.out]
        exact (Below.refl _ w5).setCell (p := ⟨gS, 0 + P * 2 + 1, none⟩) (hst.lt gS rfl).1 _
      have hoT : W6.ownsRow w4.heap.size 39 2 (.slice (some ⟨gS, offS, none⟩) xs.length cS) xs.length (cellsA (setL xs s v)) := by
        rw [HS.out, HCS.out, ← hW6, HOF.out, Nat.zero_add]
        exact hst2.1
      have hsl : (setL xs s v).length = xs.length := by rw [HS.out, List.length_set]
      obtain ⟨AS, cS', hvT, hlT, _, _, hrT⟩ := RdA.own hoT
      injection hvT with e1 e2 e3
      subst e1 e3
      have b46 := HB45.out.trans hb56
      have HB6 := Lib.hid (B4.out.trans (b46.mono B4.out.size))
      have RB6 := Lib.hid (RB4.out.below b46)
      have RS6 := Lib.hid hrT
      have HSL := Lib.hid hsl
      have hsz6 : w5.heap.size = W6.heap.size := by rw [← hW6]; simp
      rw [hW6, hsz6]
      clear hsz6 hW6 hst hst2 hb56 hoT hsl hlT hrT b46 HB45 HOS B4 RB4 HS HCS HOF f9 s1

      -- the loop
      have B6 := HB6.out
      go_loopw [12, 13, 79] (fun r o iv wr => ∃ k : Nat, k ≤ xs.length ∧ iv = .int .i64 k ∧ Hid (AtI xs s W6 k r o wr)) (fun _ _ iv _ => xs.length - (intOf iv).toNat)
      case atStart => exact ⟨0, Nat.zero_le _, rfl, Lib.hid (AtI.start xs s W6)⟩
      case round =>
        obtain ⟨k, hk, rfl, HI⟩ := hrel
        have hbr := HI.out.2
        by_cases hlt : k < xs.length
        · obtain ⟨x2, hx2⟩ := get_lt hlt
          have HX := Lib.hid hx2
          have HT := Lib.hid (by rw [take_snoc hx2, wout_snoc] : wout (xs.take (k + 1)) s = wout (xs.take k) s ++ if hs s x2 then [] else [x2])
          have HT2 := Lib.hid (once_take hx2)
          have hps := pl_le_self hx2
          have hfst : fst xs x2.1 = pl xs x2.1 := fst_hit (by omega)
          obtain ⟨b9, off9, hB9, hbl9, c0, c1⟩ := (RB6.out.below hbr).at_ hx2
          have hole : (once (xs.take k)).length ≤ k := Nat.le_trans (once_len _) (List.length_take_le _ _)
          have hwle : (wout (xs.take k) s).length ≤ k := Nat.le_trans (wout_len _ _) (List.length_take_le _ _)
          have hne : ¬ wr.heap.size = b9 := by omega
          have RW0 := HI.out.1
          have HRW0 := Lib.hid RW0
          have HBR := Lib.hid hbr
          have hszr := hbr.size
          have KF := Lib.hid (fun (W : World) (hb : Below W6.heap.size W6 W) => first_any xs x2.1 B cB W (RB6.out.below hb) (by omega))
          rw [hfst] at KF
          obtain ⟨p, hp⟩ : ∃ p, pl xs x2.1 = p := ⟨_, rfl⟩
          rw [hp] at KF HT2 hps
          subst hB9
          clear hx2 hfst hp hbr RW0
          cases hq : (x2.1.toList == s.toList) with
          | true =>
            have hw1 := HT.out
            rw [show hs s x2 = true from hq, if_pos rfl, List.append_nil] at hw1
            have RWa : Rws W6.heap.size u12 u13 (wout (xs.take (k + 1)) s) (once (xs.take k)) (wr.alloc (.cells #[.string x2.1, .string x2.2] 39)) := by
              rw [hw1]; exact HRW0.out.alloc _
            have BA := HBR.out.alloc HBR.out.size (.cells #[.string x2.1, .string x2.2] 39)
            have hcp : (wr.alloc (.cells #[.string x2.1, .string x2.2] 39)).cell? ⟨wr.heap.size, 0, none⟩ = some (.string x2.1) ∧ (wr.alloc (.cells #[.string x2.1, .string x2.2] 39)).cell? ⟨wr.heap.size, 1, none⟩ = some (.string x2.2) := ⟨by simp, by simp⟩
            have hzA : wr.heap.size < (wr.alloc (.cells #[.string x2.1, .string x2.2] 39)).heap.size := by simp
            have HRW := Lib.hid RWa
            have HBA := Lib.hid BA
            have HCP := Lib.hid hcp
            have HZA := Lib.hid hzA
            clear hw1 RWa BA hcp hzA HT HRW0
            go_wp2_with fail

            refine (KF.out (wr.alloc (.cells #[.string x2.1, .string x2.2] 39)) HBA.out).mono ?_
            rintro e Wf ⟨rfl, hbf⟩
            have RWf := HRW.out.below hbf
            have BF := HBA.out.trans (hbf.mono HBA.out.size)
            have f0 := (hbf.cell (p := ⟨wr.heap.size, 0, none⟩) HZA.out).trans HCP.out.1
            have f1 := (hbf.cell (p := ⟨wr.heap.size, 1, none⟩) HZA.out).trans HCP.out.2
            have hzF : wr.heap.size < Wf.heap.size := Nat.lt_of_lt_of_le HZA.out hbf.size
            have HRF := Lib.hid RWf
            have HBF := Lib.hid BF
            have hszF := BF.size
            clear KF HRW HBA hbf RWf BF HCP HZA
            by_cases hpk : p = k
            · have ht := HT2.out
              rw [if_pos hpk] at ht
              have HT3 := Lib.hid ht
              clear ht HT2
              subst hpk
              go_wp2_with (at_builtin; refine wpList_append_rda rfl rfl W6.heap.size _ _ _ rfl (HRF.out.alloc _).oo (some ⟨Wf.heap.size, 0, none⟩) 1 1 rfl [x2] rfl (rda_new x2 Wf) (fun e => by cases e) (by omega) (by simp; omega) ?_)
              intro o2 Wz ho2 hg2 hl2
              have HO2 := Lib.hid ho2
              have HG2 := Lib.hid hg2
              have HL2 := Lib.hid hl2
              clear ho2 hg2 hl2
              go_wp2
              go_roundw
              case rel =>
                refine ⟨p + 1, by omega, by go_num, Lib.hid ⟨?_, ?_⟩⟩
                · refine (HRF.out.alloc _).growO ?_ HG2.out (by simpa using HL2.out)
                  rw [HT3.out, List.length_append]
                  exact HO2.out
                · exact (HBF.out.alloc HBF.out.size _).grown HG2.out (by simp; omega) (fun g e => (HRF.out.oo.lt g e).1)
              case measure => simp [intOf]; omega
            · have ht := HT2.out
              rw [if_neg hpk] at ht
              have HT3 := Lib.hid ht
              have hd : ((p : Int) == (k : Int)) = false := by simp; omega
              have hd2 : (p == k) = false := by simp; omega
              clear ht HT2 hpk
              go_wp2
              go_roundw
              case rel =>
                refine ⟨k + 1, by omega, by go_num, Lib.hid ⟨?_, HBF.out⟩⟩
                rw [HT3.out]
                exact HRF.out
              case measure => simp [intOf]; omega

          | false =>
            have hw1 := HT.out
            rw [show hs s x2 = false from hq, if_neg (by simp)] at hw1
            have HW1 := Lib.hid hw1
            clear hw1
            go_wp2_with (at_builtin; refine wpList_append_rda rfl rfl W6.heap.size _ _ _ rfl ((HRW0.out.alloc _).alloc _).rr (some ⟨wr.heap.size + 1, 0, none⟩) 1 1 rfl [x2] rfl (rda_newN x2 (wr.alloc (.cells #[.string x2.1, .string x2.2] 39)) (wr.heap.size + 1) (by simp)) (fun e => by cases e) (by omega) (by simp; omega) ?_)
            intro r2 Wa ho1 hg1 hl1
            rw [← HW1.out] at ho1
            have RWa : Rws W6.heap.size r2 u13 (wout (xs.take (k + 1)) s) (once (xs.take k)) Wa := ((HRW0.out.alloc _).alloc _).growR (by rw [HW1.out, List.length_append, ← HW1.out]; exact ho1) hg1 (by simpa using hl1)
            have hrl := fun g e => (HRW0.out.rr.lt g e)
            have BA : Below W6.heap.size W6 Wa := ((HBR.out.alloc HBR.out.size _).alloc (by simp; omega) _).grown hg1 (by simp; omega) (fun g e => (hrl g e).1)
            have hcp : Wa.cell? ⟨wr.heap.size, 0, none⟩ = some (.string x2.1) ∧ Wa.cell? ⟨wr.heap.size, 1, none⟩ = some (.string x2.2) := by
              have hfar := fun j => hg1.cell_far (⟨wr.heap.size, j, none⟩ : Addr) (by simp; omega) (fun e => by have := (hrl _ e.symm).2; simp at this)
              exact ⟨(hfar 0).trans (by simp), (hfar 1).trans (by simp)⟩
            have hzA : wr.heap.size < Wa.heap.size := by have := hg1.size; simp at this; omega
            have HRW := Lib.hid RWa
            have HBA := Lib.hid BA
            have HCP := Lib.hid hcp
            have HZA := Lib.hid hzA
            clear RWa BA hcp hzA HT HRW0 hrl ho1 hg1 hl1 HW1
            have cp0 := HCP.out.1
            have cp1 := HCP.out.2
            go_wp2_with fail

            refine (KF.out (Wa) HBA.out).mono ?_
            rintro e Wf ⟨rfl, hbf⟩
            have RWf := HRW.out.below hbf
            have BF := HBA.out.trans (hbf.mono HBA.out.size)
            have f0 := (hbf.cell (p := ⟨wr.heap.size, 0, none⟩) HZA.out).trans HCP.out.1
            have f1 := (hbf.cell (p := ⟨wr.heap.size, 1, none⟩) HZA.out).trans HCP.out.2
            have hzF : wr.heap.size < Wf.heap.size := Nat.lt_of_lt_of_le HZA.out hbf.size
            have HRF := Lib.hid RWf
            have HBF := Lib.hid BF
            have hszF := BF.size
            clear KF HRW HBA hbf RWf BF HCP HZA
            by_cases hpk : p = k
            · have ht := HT2.out
              rw [if_pos hpk] at ht
              have HT3 := Lib.hid ht
              clear ht HT2
              subst hpk
              go_wp2_with (at_builtin; refine wpList_append_rda rfl rfl W6.heap.size _ _ _ rfl (HRF.out.alloc _).oo (some ⟨Wf.heap.size, 0, none⟩) 1 1 rfl [x2] rfl (rda_new x2 Wf) (fun e => by cases e) (by omega) (by simp; omega) ?_)
              intro o2 Wz ho2 hg2 hl2
              have HO2 := Lib.hid ho2
              have HG2 := Lib.hid hg2
              have HL2 := Lib.hid hl2
              clear ho2 hg2 hl2
              go_wp2
              go_roundw
              case rel =>
                refine ⟨p + 1, by omega, by go_num, Lib.hid ⟨?_, ?_⟩⟩
                · refine (HRF.out.alloc _).growO ?_ HG2.out (by simpa using HL2.out)
                  rw [HT3.out, List.length_append]
                  exact HO2.out
                · exact (HBF.out.alloc HBF.out.size _).grown HG2.out (by simp; omega) (fun g e => (HRF.out.oo.lt g e).1)
              case measure => simp [intOf]; omega
            · have ht := HT2.out
              rw [if_neg hpk] at ht
              have HT3 := Lib.hid ht
              have hd : ((p : Int) == (k : Int)) = false := by simp; omega
              have hd2 : (p == k) = false := by simp; omega
              clear ht HT2 hpk
              go_wp2
              go_roundw
              case rel =>
                refine ⟨k + 1, by omega, by go_num, Lib.hid ⟨?_, HBF.out⟩⟩
                rw [HT3.out]
                exact HRF.out
              case measure => simp [intOf]; omega

        · obtain rfl : k = xs.length := by omega
          obtain ⟨hrw, hbr⟩ := HI.out
          rw [List.take_of_length_le (Nat.le_refl _)] at hrw
          obtain ⟨Ar, cr, rfl, hlr, _, hnr, hrr⟩ := RdA.own hrw.rr
          obtain ⟨Ao, co, rfl, hlo, _, hno, hro⟩ := RdA.own hrw.oo
          have RR := Lib.hid hrr
          have RO := Lib.hid hro
          have B7 := Lib.hid (B6.trans (hbr.mono B6.size))
          have RW7 := Lib.hid (RB6.out.below hbr)
          have RS7 := Lib.hid (RS6.out.below hbr)
          have sl := setL_len xs s v
          have wl := wout_len xs s
          have ol := once_len xs
          clear HI hrw hbr hlr hnr hrr hlo hno hro B6 HB6 RB6 RS6
          have KT := Lib.hid (fun a b c d e f g i j => tget_any xs s (some ⟨bA, offA, none⟩) cap wr (H.out.below B7.out) (by omega) a b c d e f g i j)
          rw [hf2.out] at KT
          have ww : gotV (some x) = .returned (.tuple #[.string x.2, .bool true]) := rfl
          rw [ww] at KT
          clear ww
          have hvv : ((x.2 : ByteArray).toList == (x.2 : ByteArray).toList) = true := by simp
          have hzz : ((true : Bool) == true) = true := by simp
          go_wp2_with fail
          refine (KT.out _ _ _ _ _ _ _ _ _).mono ?_
          rintro e w8 ⟨rfl, hb8⟩
          have B8 := Lib.hid (B7.out.trans (hb8.mono B7.out.size))
          have K8 := Lib.hid (set_any xs s v (some ⟨bA, offA, none⟩) cap w8 (H.out.below B8.out) (by omega) HA.out)
          have RR8 := Lib.hid (RR.out.below hb8)
          have RO8 := Lib.hid (RO.out.below hb8)
          have RW8 := Lib.hid (RW7.out.below hb8)
          have RS8 := Lib.hid (RS7.out.below hb8)
          clear KT hb8 B7 RR RO RW7 RS7
          go_wp2_with fail
          refine K8.out.mono ?_
          rintro e w9 he
          obtain ⟨A9, c9, rfl, hr9, hn9, hb9⟩ := he.out
          have B9 := Lib.hid (B8.out.trans (hb9.mono B8.out.size))
          have K9 := Lib.hid (same_refl (setL xs s v) A9 (some ⟨gS, offS, none⟩) c9 cS w9 hr9 (RS8.out.below hb9) (by omega))
          have RR9 := Lib.hid (RR8.out.below hb9)
          have RO9 := Lib.hid (RO8.out.below hb9)
          have RW9 := Lib.hid (RW8.out.below hb9)
          rw [HSL.out] at K9
          rw [HSL.out]
          clear K8 he hb9 hr9 hn9 B8 RR8 RO8 RW8 RS8
          go_wp2_with fail
          refine K9.out.mono ?_
          rintro e w9b ⟨rfl, q9, rfl⟩
          have hq9 : Below w9.heap.size w9 (w9.drewN q9) := below_drewN (Below.refl _ _) q9
          obtain ⟨wA, hwA⟩ : ∃ wA, w9.drewN q9 = wA := ⟨_, rfl⟩
          rw [hwA] at hq9 ⊢
          have BA := Lib.hid (B9.out.trans (hq9.mono B9.out.size))
          have KA := Lib.hid (without_any xs s (some ⟨bA, offA, none⟩) cap wA (H.out.below BA.out) (by omega))
          have RRA := Lib.hid (RR9.out.below hq9)
          have ROA := Lib.hid (RO9.out.below hq9)
          have RWA := Lib.hid (RW9.out.below hq9)
          clear K9 hwA hq9 B9 RR9 RO9 RW9
          go_wp2_with fail
          refine KA.out.mono ?_
          rintro e wB he
          obtain ⟨AB, cBB, rfl, hrB, hnB, hbB⟩ := he.out
          have BB := Lib.hid (BA.out.trans (hbB.mono BA.out.size))
          have KB := Lib.hid (same_refl (wout xs s) AB Ar cBB cr wB hrB (RRA.out.below hbB) (by omega))
          have ROB := Lib.hid (ROA.out.below hbB)
          have RWB := Lib.hid (RWA.out.below hbB)
          clear KA he hrB hnB hbB BA RRA ROA RWA
          go_wp2_with fail
          refine KB.out.mono ?_
          rintro e wBb ⟨rfl, qB, rfl⟩
          have hqB : Below wB.heap.size wB (wB.drewN qB) := below_drewN (Below.refl _ _) qB
          obtain ⟨wC, hwC⟩ : ∃ wC, wB.drewN qB = wC := ⟨_, rfl⟩
          rw [hwC] at hqB ⊢
          have BC := Lib.hid (BB.out.trans (hqB.mono BB.out.size))
          have KC := Lib.hid (once_call xs (some ⟨bA, offA, none⟩) cap wC (H.out.below BC.out) (by omega) HZ.out)
          have ROC := Lib.hid (ROB.out.below hqB)
          have RWC := Lib.hid (RWB.out.below hqB)
          clear KB hwC hqB BB ROB RWB
          go_wp2_with fail
          refine KC.out.mono ?_
          rintro e wD he
          obtain ⟨AD, cD, rfl, hrD, hnD, hbD⟩ := he.out
          have BD := Lib.hid (BC.out.trans (hbD.mono BC.out.size))
          have KD := Lib.hid (same_refl (once xs) AD Ao cD co wD hrD (ROC.out.below hbD) (by omega))
          have RWD := Lib.hid (RWC.out.below hbD)
          clear KC he hrD hnD hbD BC ROC RWC
          go_wp2_with fail
          refine KD.out.mono ?_
          rintro e wDb ⟨rfl, qD, rfl⟩
          have hqD : Below wD.heap.size wD (wD.drewN qD) := below_drewN (Below.refl _ _) qD
          obtain ⟨wE, hwE⟩ : ∃ wE, wD.drewN qD = wE := ⟨_, rfl⟩
          rw [hwE] at hqD ⊢
          have BE := Lib.hid (BD.out.trans (hqD.mono BD.out.size))
          have KE := Lib.hid (same_refl xs (some ⟨bA, offA, none⟩) B cap cB wE (H.out.below BE.out) (RWD.out.below hqD) (by omega))
          clear KD hwE hqD BD RWD
          go_wp2_with fail
          refine KE.out.mono ?_
          rintro e wF ⟨rfl, qE, rfl⟩
          go_wp2
          go_ret
          exact ⟨rfl, below_drewN BE.out _⟩

  · have hg : decide (40 < xs.length) = true := decide_eq_true (by omega)
    have hg2 : decide ((40 : Int) < (xs.length : Int)) = true := decide_eq_true (by omega)
    go_enter Try.func4, Try.ntmps4
    go_wp2_with fail
    refine KH.out.mono ?_
    rintro e w1 ⟨rfl, hb1⟩
    go_wp2
    go_ret
    exact ⟨rfl, hb1⟩

end Go.Proofs.Ytcookhjgajfalaa
