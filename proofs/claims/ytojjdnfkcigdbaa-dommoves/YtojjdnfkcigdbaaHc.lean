/- The walk's own recursive closure: what it shows. -/
import Derived.Test.YtojjdnfkcigdbaaJoin15
import Derived.Lib.Hide
import Derived.TacticsIn
import Derived.TacticsInMore
import Derived.LoopN
import Derived.LoopIn
import Derived.LoopNIn
import Derived.BigRegionIn
namespace Go.Proofs.Ytojjdnfkcigdbaa
open Go.RowKit Go.Shelf Go.Lib
attribute [local go_sem] Oper.semAt_some

theorem grown_setCellM (W : World) (p : Addr) (v : Value) : W.grownBy (W.setCell p v) (some p.block) :=
  ⟨rfl, rfl, rfl, by simp [World.setCell], fun k _ hk => Below.heap_setCell W p v k (fun e => hk (by rw [e]))⟩
abbrev encW (x : Int × Nat) : Array Value := #[.int .i64 x.1, .int .i64 x.2]
section
variable {Bd base D : Nat} {v : Value} {qk : Bool} {ns : List Nd} {E : Nat}
set_option maxHeartbeats 4000000 in
theorem visit_in (nn : Nat) (hn : 1 ≤ nn) (l N0 : Nat) (J Jx : List (Int × Nat) → World → Prop) (hJ : AbidesE E 3 J)
    (hY : ∀ pre x W1, J pre W1 → pre.length < N0 → E + 3 ≤ W1.heap.size → YieldAt Fence.wide (nn - 1) Try.prog l (encW x) W1 fun e W' =>
      (e = .returned (.bool true) ∧ J (pre ++ [x]) W' ∧ KpW Bd base D v qk ns E W1 W') ∨ (e = .returned (.bool false) ∧ Jx (pre ++ [x]) W')) :
    ∀ (left : Nat) (n : Int) (d : Nat) (pre o : List (Int × Nat)) (lf : Nat) (b : Bool) (W : World), Vis ns left (kdN ns (srcN ns n)) d o lf b → VM Bd base D v qk ns E l left W → J pre W → pre.length + left < N0 → left ≤ 1000000 → d + left ≤ 2000000 →
      CallsIn Fence.wide nn Try.prog 48 #[.int .i64 n, .int .i64 d, .pointer (some ⟨Bd, 0, none⟩), .pointer (some ⟨E + 1, 0, none⟩), .pointer (some ⟨E, 0, none⟩), .pointer (some ⟨E + 2, 0, none⟩)] W fun e W' =>
        (e = .returned (.bool b) ∧ J (pre ++ o) W' ∧ (b = true → VM Bd base D v qk ns E l lf W')) ∨ (e = .returned (.bool false) ∧ ∃ o', o' <+: o ∧ Jx (pre ++ o') W') := by
  intro left
  induction left using Nat.strongRecOn with
  | _ left ih =>
    intro n d pre o lf b W hvis hvm hj hpl hl6 hd6
    have IH := Lib.hid ih
    have HY := Lib.hid hY
    have HJA := Lib.hid hJ
    have HVIS := Lib.hid hvis
    have HVM := Lib.hid hvm
    have HJ0 := Lib.hid hj
    have KS := shown_any n W hvm.src.doc
    obtain ⟨A, c, e1, hle, hmx, _, _, _⟩ := kids_form (srcN ns n) hvm.src.doc
    rw [e1] at KS
    have HKS := Lib.hid KS
    have HE1 := Lib.hid e1
    obtain ⟨cd, _, _, _, _, _⟩ := hvm.cells
    obtain ⟨K, hK⟩ : ∃ K, kdN ns (srcN ns n) = K := ⟨_, rfl⟩
    rw [hK] at HKS HVIS HE1 hle
    have HK := Lib.hid hK
    unfold maxLen at hmx
    clear ih hY hJ hvis hvm hj KS e1 hK
    refine callsIn_of_wp Try.func48 rfl trivial ?_ rfl
    simp only [Try.ntmps48, List.size_toArray, List.length_cons, List.length_nil, Nat.reduceAdd, Nat.reduceSub, Array.replicate_succ, Array.replicate_zero, List.push_toArray, List.append_toArray, List.nil_append, List.cons_append]
    gi_wp2_with (refine ⟨trivial, ?_⟩; gi_at_call 49; refine (callsIn_wide.2 HKS.out).mono ?_; rintro e w1 ⟨rfl, rfl⟩)
    gi_loopw [15] (fun iv wr => ∃ (i m : Nat) (o1 o2 : List (Int × Nat)), iv = .int .i64 i ∧ i ≤ K.length ∧ Hid (Vis ns m (K.drop i) d o2 lf b) ∧ Hid (o = o1 ++ o2) ∧ Hid (VM Bd base D v qk ns E l m wr) ∧ Hid (J (pre ++ o1) wr) ∧ Hid (o1.length + m ≤ left)) (fun iv _ => K.length - (intOf iv).toNat)
    case atStart => exact ⟨0, left, [], o, rfl, Nat.zero_le _, HVIS, Lib.hid rfl, HVM, Lib.hid (by rw [List.append_nil]; exact HJ0.out), Lib.hid (by simp)⟩
    case round =>
      obtain ⟨i, m, o1, o2, rfl, hi, HV, HO, HM, HJ, HLE⟩ := hrel
      by_cases hlt : i < K.length
      · obtain ⟨k, hk⟩ : ∃ k, K[i]? = some k := ⟨_, List.getElem?_eq_getElem hlt⟩
        have hdr : K.drop i = k :: K.drop (i + 1) := by
          rw [List.drop_eq_getElem_cons hlt]
          rw [List.getElem?_eq_getElem hlt] at hk
          injection hk with hk
          rw [hk]
        have hv := HV.out
        rw [hdr] at hv
        obtain ⟨rest, hrest⟩ : ∃ rest, K.drop (i + 1) = rest := ⟨_, rfl⟩
        rw [hrest] at hv
        have HRS := Lib.hid hrest
        obtain ⟨A', c', e2, _, _, _, hr, _⟩ := kids_form (srcN ns n) HM.out.src.doc
        rw [HE1.out, HK.out] at e2
        rw [HK.out] at hr
        injection e2 with e2 e3 e4
        subst e2
        obtain ⟨bb, off, rfl, hbb, hcell⟩ := hr.pos (by omega)
        have ck := hcell i hlt
        rw [hk] at ck
        have ck : wr.cell? ⟨bb, off + i, none⟩ = some (.int .i64 k) := ck
        have KH := has_any k wr HM.out.src.doc
        obtain ⟨c0, cy, cl, fl, cv, hE3⟩ := HM.out.cells
        have HW := Lib.hid (HM.out.below (below_drewN (Below.refl _ wr) 1))
        clear hr hcell hdr hk e3 e4 hrest HV
        cases hv with
        | skip h1 h2 =>
          rw [h1] at KH
          have HKH := Lib.hid KH
          have H2 := Lib.hid h2
          clear KH h1 h2
          gi_wp2_with (refine ⟨trivial, ?_⟩; gi_at_call 43; refine (callsIn_wide.2 HKH.out).mono ?_; rintro e w2 ⟨rfl, rfl⟩)
          go_roundw
          case rel => exact ⟨i + 1, m, o1, o2, by go_num, by omega, Lib.hid (by rw [HRS.out]; exact H2.out), HO, HM, HJ, HLE⟩
          case measure => simp [intOf]; omega
        | out h1 =>
          rw [h1] at KH
          have HKH := Lib.hid KH
          have HF : Hid (J (pre ++ o) (wr.setCell ⟨E + 1, 0, none⟩ (.int .i64 (-1)))) := Lib.hid (by
            rw [HO.out, List.append_nil]
            exact HJA.out _ _ _ (some (E + 1)) HJ.out (grown_setCellM wr ⟨E + 1, 0, none⟩ _) (fun r e => by cases e; omega))
          clear KH h1
          gi_wp2_with (refine ⟨trivial, ?_⟩; gi_at_call 43; refine (callsIn_wide.2 HKH.out).mono ?_; rintro e w2 ⟨rfl, rfl⟩)
          refine ⟨fun _ e => (by cases e), ?_⟩
          gi_wp2
          go_ret
          exact .inl ⟨rfl, HF.out, fun e => by cases e⟩
        | @stop m2 _ _ _ o3 _ h1 h2 =>
          rw [h1] at KH
          have HKH := Lib.hid KH
          have HM2 := Lib.hid (HM.out.less (left' := m2))
          have HJ2 : Hid (J (pre ++ o1) (wr.setCell ⟨E + 1, 0, none⟩ (.int .i64 m2))) := Lib.hid (HJA.out _ _ _ (some (E + 1)) HJ.out (grown_setCellM wr ⟨E + 1, 0, none⟩ _) (fun r e => by cases e; omega))
          have H2 := Lib.hid h2
          have hlen : o1.length + (m2 + 1) ≤ left := HLE.out
          obtain ⟨fn, tmps, assign, body, hy, hR⟩ := HY.out (pre ++ o1) (k, d) _ HJ2.out (by rw [List.length_append]; omega) (by simpa [World.setCell] using hE3)
          simp only [encW] at hy
          obtain ⟨c02, cy2, cl2, _, _, _⟩ := HM2.out.cells
          have d0 : decide ((m2 : Int) < 0) = false := decide_eq_false (by omega)
          have hsub : ((m2 : Int) + 1) - 1 = (m2 : Int) := by omega
          clear KH h1 h2 HJ
          gi_wp2_with (refine ⟨trivial, ?_⟩; gi_at_call 43; refine (callsIn_wide.2 HKH.out).mono ?_; rintro e w2 ⟨rfl, rfl⟩)
          refine hR.mono ?_
          rintro e W3 (⟨rfl, hj3, hk3⟩ | ⟨rfl, hx3⟩)
          · have HM3 := Lib.hid (HM2.out.round hk3)
            obtain ⟨c03, cy3, cl3, _, cv3, hE33⟩ := HM3.out.cells
            have IHr := IH.out m2 (by omega) k (d + 1) (pre ++ o1 ++ [(k, d)]) o3 _ _ W3 H2.out HM3.out hj3 (by simp; omega) (by omega) (by omega)
            have IHr : CallsIn Fence.wide nn Try.prog 48 #[.int .i64 k, .int .i64 ((d : Int) + 1), .pointer (some ⟨Bd, 0, none⟩), .pointer (some ⟨E + 1, 0, none⟩), .pointer (some ⟨E, 0, none⟩), .pointer (some ⟨E + 2, 0, none⟩)] W3 _ := IHr
            have HIH := Lib.hid IHr
            clear IHr hj3 hk3 hy hR
            gi_wp2_with (refine ⟨trivial, ?_⟩; gi_at_call 48; refine (callsIn_wide.2 (callsIn_wide.1 HIH.out)).mono ?_; rintro e W4 h4; obtain rfl : e = .returned (.bool false) := (by rcases h4 with ⟨h, _⟩ | ⟨h, _⟩ <;> exact h); have H4 := Lib.hid h4; clear h4)
            go_ret
            rcases H4.out with ⟨_, hj4, _⟩ | ⟨_, o', hp, hx4⟩
            · refine .inl ⟨rfl, ?_, fun e => by cases e⟩
              rw [HO.out]
              simpa using hj4
            · refine .inr ⟨rfl, o1 ++ (k, d) :: o', ?_, by simpa using hx4⟩
              rw [HO.out]
              obtain ⟨t, ht⟩ := hp
              exact ⟨t, by rw [← ht]; simp⟩
          · have HX := Lib.hid hx3
            clear hx3 hy hR
            gi_wp2
            refine ⟨fun _ e => (by cases e), ?_⟩
            gi_wp2
            go_ret
            refine .inr ⟨rfl, o1 ++ [(k, d)], ?_, by have := HX.out; rwa [List.append_assoc] at this⟩
            rw [HO.out]
            exact ⟨o3, by simp⟩
        | @go m2 _ _ _ o3 l3 o4 _ _ h1 h2 h3 =>
          rw [h1] at KH
          have HKH := Lib.hid KH
          have HM2 := Lib.hid (HM.out.less (left' := m2))
          have HJ2 : Hid (J (pre ++ o1) (wr.setCell ⟨E + 1, 0, none⟩ (.int .i64 m2))) := Lib.hid (HJA.out _ _ _ (some (E + 1)) HJ.out (grown_setCellM wr ⟨E + 1, 0, none⟩ _) (fun r e => by cases e; omega))
          have H2 := Lib.hid h2
          have H3 := Lib.hid h3
          have hlen : o1.length + (m2 + 1) ≤ left := HLE.out
          obtain ⟨fn, tmps, assign, body, hy, hR⟩ := HY.out (pre ++ o1) (k, d) _ HJ2.out (by rw [List.length_append]; omega) (by simpa [World.setCell] using hE3)
          simp only [encW] at hy
          obtain ⟨c02, cy2, cl2, _, _, _⟩ := HM2.out.cells
          have d0 : decide ((m2 : Int) < 0) = false := decide_eq_false (by omega)
          have hsub : ((m2 : Int) + 1) - 1 = (m2 : Int) := by omega
          clear KH h1 h2 h3 HJ
          gi_wp2_with (refine ⟨trivial, ?_⟩; gi_at_call 43; refine (callsIn_wide.2 HKH.out).mono ?_; rintro e w2 ⟨rfl, rfl⟩)
          refine hR.mono ?_
          rintro e W3 (⟨rfl, hj3, hk3⟩ | ⟨rfl, hx3⟩)
          · have HM3 := Lib.hid (HM2.out.round hk3)
            obtain ⟨c03, cy3, cl3, _, cv3, hE33⟩ := HM3.out.cells
            have IHr := IH.out m2 (by omega) k (d + 1) (pre ++ o1 ++ [(k, d)]) o3 _ _ W3 H2.out HM3.out hj3 (by simp; omega) (by omega) (by omega)
            have IHr : CallsIn Fence.wide nn Try.prog 48 #[.int .i64 k, .int .i64 ((d : Int) + 1), .pointer (some ⟨Bd, 0, none⟩), .pointer (some ⟨E + 1, 0, none⟩), .pointer (some ⟨E, 0, none⟩), .pointer (some ⟨E + 2, 0, none⟩)] W3 _ := IHr
            have HIH := Lib.hid IHr
            clear IHr hj3 hk3 hy hR
            gi_wp2_with (refine ⟨trivial, ?_⟩; gi_at_call 48; refine (callsIn_wide.2 (callsIn_wide.1 HIH.out)).mono ?_; rintro e W4 h4; obtain ⟨r, rfl⟩ : ∃ r, e = .returned (.bool r) := (by rcases h4 with ⟨h, _⟩ | ⟨h, _⟩ <;> exact ⟨_, h⟩); have H4 := Lib.hid h4; clear h4)
            · rename_i hrr
              go_ret
              rcases H4.out with ⟨h, _, _⟩ | ⟨h, o', hp, hx4⟩
              · injection h with h; injection h with h; rw [h] at hrr; cases hrr
              · refine .inr ⟨rfl, o1 ++ (k, d) :: o', ?_, by simpa using hx4⟩
                rw [HO.out]
                obtain ⟨t, ht⟩ := hp
                exact ⟨t ++ o4, by rw [← ht]; simp⟩
            · rename_i hrr
              have hr4 : J (pre ++ o1 ++ [(k, d)] ++ o3) W4 ∧ VM Bd base D v qk ns E l l3 W4 := by
                rcases H4.out with ⟨_, h1, h2⟩ | ⟨h, _⟩
                · exact ⟨h1, h2 trivial⟩
                · injection h with h; injection h with h; rw [h] at hrr; cases hrr
              have hle3 := H2.out.le
              go_roundw
              case rel => exact ⟨i + 1, l3, o1 ++ (k, d) :: o3, o4, by go_num, by omega, Lib.hid (by rw [HRS.out]; exact H3.out), Lib.hid (by rw [HO.out]; simp), Lib.hid hr4.2, Lib.hid (by simpa using hr4.1), Lib.hid (by simp; omega)⟩
              case measure => simp [intOf]; omega
          · have HX := Lib.hid hx3
            clear hx3 hy hR
            gi_wp2
            refine ⟨fun _ e => (by cases e), ?_⟩
            gi_wp2
            go_ret
            refine .inr ⟨rfl, o1 ++ [(k, d)], ?_, by have := HX.out; rwa [List.append_assoc] at this⟩
            rw [HO.out]
            exact ⟨o3 ++ o4, by simp⟩
      · obtain rfl : i = K.length := by omega
        have hv := HV.out
        rw [List.drop_length] at hv
        cases hv with
        | nil =>
          have HF : Hid (J (pre ++ o) wr ∧ VM Bd base D v qk ns E l lf wr) := Lib.hid ⟨by have := HJ.out; rw [HO.out, List.append_nil]; exact this, HM.out⟩
          gi_wp2
          go_ret
          exact .inl ⟨rfl, HF.out.1, HF.out.2⟩
end
end Go.Proofs.Ytojjdnfkcigdbaa
