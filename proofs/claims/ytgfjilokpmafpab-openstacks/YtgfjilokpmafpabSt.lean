/- The law OpenStacks, walked. -/
import Derived.Test.YtgfjilokpmafpabSn
import Derived.Test.YtgfjilokpmafpabSu
import Derived.Deep.DeepCutAuto
import Derived.Deep.CutBlock
namespace Go.Proofs.Ytgfjilokpmafpab
open Go.RowKit Go.Shelf Go.Lib

/-- the law's memory: the stack, the law's own list, apart -/
structure OS (w : World) (T : Nat) (pd va vo : Value) (xs : List Int) (W : World) : Prop where
  st : StM T pd va xs W
  ow : W.ownsRow w.heap.size 3 1 vo xs.length (xs.map (Value.int .i64))
  ap : ∀ j, ST T va j → vo.ownBlock ≠ some j
  ge : ∀ j, ST T va j → w.heap.size ≤ j
  bw : Below w.heap.size w W
section
variable {w : World} {T : Nat} {pd va vo : Value} {xs xs' : List Int} {W W' : World}
theorem OS.below (h : OS w T pd va vo xs W) (hb : Below W.heap.size W W') : OS w T pd va vo xs W' :=
  ⟨h.st.below hb, own_keep h.ow hb, h.ap, h.ge, h.bw.trans (hb.mono h.bw.size)⟩
/-- the stack turns -/
theorem OS.turn (h : OS w T pd va vo xs W) (hp : SPost T pd va xs' W W') : ∃ va', StM T pd va' xs' W' ∧ W'.ownsRow w.heap.size 3 1 vo xs.length (xs.map (Value.int .i64)) ∧ (∀ j, ST T va' j → vo.ownBlock ≠ some j) ∧ (∀ j, ST T va' j → w.heap.size ≤ j) ∧ Below w.heap.size w W' := by
  obtain ⟨va', hs, hf, hn⟩ := hp
  have hl := h.bw.size
  have hin : ∀ j, ST T va' j → ST T va j ∨ W.heap.size ≤ j := by
    rintro j (rfl | e)
    · exact .inl (.inl rfl)
    · rcases hn _ e with h1 | h1
      · exact .inl (.inr h1)
      · exact .inr h1
  refine ⟨va', hs, hf.own h.ow (fun k e hk => h.ap k hk e), fun j hj e => ?_, fun j hj => ?_, h.bw.trans (hf.toBelow hl h.ge)⟩
  · rcases hin j hj with h1 | h1
    · exact h.ap j h1 e
    · have := (h.ow.lt j e).2
      omega
  · rcases hin j hj with h1 | h1
    · exact h.ge j h1
    · omega
end
set_option maxRecDepth 100000 in
set_option maxHeartbeats 40000000 in
theorem openStacks_law (os : List Int) (A : Option Addr) (cap : Nat) (w : World) (hr : Rd w .i64 A os) (hlm : os.length ≤ maxLen) :
    Calls Try.prog 3 #[.slice A os.length cap] w fun e w' => e = .returned (.bool true) ∧ Below w.heap.size w w' := by
  have KH := Lib.hid (head11_any w)
  have HR := Lib.hid hr
  unfold maxLen at hlm
  clear hr
  go_enter Try.func3, Try.ntmps3
  go_wp2_with fail
  refine KH.out.mono ?_
  rintro e w1 ⟨rfl, hb1⟩
  have KN := Lib.hid (New_any w1)
  have HB1 := Lib.hid hb1
  clear hb1 KH
  go_wp2_with fail
  refine KN.out.mono ?_
  rintro e w2 ⟨D, v, rfl, _, hb2⟩
  have HB2 := Lib.hid (HB1.out.trans (hb2.mono HB1.out.size))
  clear hb2 HB1 KN
  obtain ⟨W0, hW0⟩ : ∃ W0, (w2.alloc (.cells #[.pointer (some ⟨D, 0, none⟩), .slice none 0 0] 28)).alloc (.cells #[] 3) = W0 := ⟨_, rfl⟩
  have h0 : OS w w2.heap.size (.pointer (some ⟨D, 0, none⟩)) (.slice none 0 0) (.slice (some ⟨w2.heap.size + 1, 0, none⟩) 0 0) [] W0 := by
    have hs := HB2.out.size
    have ho := (World.ownsRow_made (base := w.heap.size) (e := 3) (size := 1) (w2.alloc (.cells #[.pointer (some ⟨D, 0, none⟩), .slice none 0 0] 28)) #[] 0 (by simp; omega) (Nat.zero_le _) (by simp))
    rw [World.size_alloc] at ho
    refine ⟨⟨?_, .inl ⟨rfl, rfl⟩⟩, ?_, ?_, ?_, ?_⟩
    · rw [← hW0, Below.heap_alloc _ _ _ (by simp)]
      exact heap_alloc_new w2 _
    · rw [← hW0]; exact ho
    · rintro j (rfl | e) e2
      · simp [Value.ownBlock] at e2
      · cases e
    · rintro j (rfl | e)
      · exact hs
      · cases e
    · rw [← hW0]; exact (HB2.out.alloc hs _).alloc (by simp; omega) _
  have H0 := Lib.hid h0
  have hs0 : W0.heap.size = w2.heap.size + 2 := by rw [← hW0]; simp
  have KT := Lib.hid (top_any W0 h0.st (by simp))
  have KP := Lib.hid (pop_any W0 h0.st (by simp))
  clear h0 HB2 hs0
  subst hW0
  rw [show topI [] = -1 from rfl] at KT KP
  go_wp2_with fail
  refine KT.out.mono ?_
  rintro e w3 ⟨rfl, rfl⟩
  go_wp2_with fail
  refine KP.out.mono ?_
  rintro e w3 ⟨rfl, hp⟩
  obtain ⟨va, hs1, ho1, ha1, hg1, hbw1⟩ := H0.out.turn hp
  have H1 : Hid (OS w w2.heap.size (.pointer (some ⟨D, 0, none⟩)) va (.slice (some ⟨w2.heap.size + 1, 0, none⟩) 0 0) [] w3) := Lib.hid ⟨hs1, ho1, ha1, hg1, hbw1⟩
  clear hp hs1 ho1 ha1 hg1 hbw1 KT KP H0
  go_wp2
  obtain ⟨T, hT⟩ : ∃ T, w2.heap.size = T := ⟨_, rfl⟩
  rw [hT] at H1 ⊢
  obtain ⟨pd, hpd⟩ : ∃ pd, Value.pointer (some ⟨D, 0, none⟩) = pd := ⟨_, rfl⟩
  rw [hpd] at H1
  clear hT hpd
  go_loopw [4, 5] (fun ov iv wr => ∃ (i : Nat) (va : Value) (xs : List Int), i ≤ os.length ∧ i ≤ 60 ∧ iv = .int .i64 i ∧ Hid (OS w T pd va ov xs wr) ∧ Hid (xs.length ≤ i)) (fun _ iv _ => 60 - (intOf iv).toNat)
  case atStart => exact ⟨0, va, [], Nat.zero_le _, Nat.zero_le _, rfl, H1, Lib.hid (Nat.le_refl _)⟩
  case round =>
    obtain ⟨i, va, xs, hil, hi60, rfl, HO, HL⟩ := hrel
    by_cases hgo : i < os.length ∧ i < 60
    · obtain ⟨hlt, hlt60⟩ := hgo
      obtain ⟨b, off, hA, hbl, hcs⟩ := HR.out.pos (by omega)
      obtain ⟨o, ho⟩ : ∃ o, os[i]? = some o := ⟨_, List.getElem?_eq_getElem hlt⟩
      have q0 : wr.cell? ⟨b, off + i, none⟩ = some (.int .i64 o) := by
        rw [HO.out.bw.cell (p := ⟨b, off + i, none⟩) hbl, hcs i hlt, ho]; rfl
      subst hA
      have g60 : decide ((i : Int) < 60) = true := decide_eq_true (by omega)
      obtain ⟨Ao, co, rfl, _, hco1, hco2, hro0⟩ := Rd.own HO.out.ow
      have HRO := Lib.hid hro0
      have HC1 := Lib.hid hco1
      have HC2 := Lib.hid hco2
      clear hro0 hco1 hco2
      clear hcs ho
      go_upto_block 2 with fail
      obtain ⟨n, hn⟩ : ∃ n, bits BinOp.and IntKind.i64 (o / 8) 15 = n := ⟨_, rfl⟩
      obtain ⟨t, htt⟩ : ∃ t, bits BinOp.and IntKind.i64 o 7 = t := ⟨_, rfl⟩
      rw [hn, htt]
      have hn0 : 0 ≤ n ∧ n ≤ 15 := by rw [← hn, i64_and15]; omega
      obtain ⟨hn1, hn2⟩ := hn0
      clear hn htt q0
      go_cut [4] (fun s4 wx => Hid (∃ va4 ys, OS w T pd va4 s4 ys wx ∧ ys.length ≤ i + 1))
      case first =>
        by_cases ht : t = 0
        · have e0 : (t == 0) = true := by rw [beq_iff_eq]; exact ht
          clear ht
          have KP := Lib.hid (push_any n wr HO.out.st (by have := HL.out; omega))
          obtain ⟨i0, hi, hz0, hz1, hz2⟩ := info_parts infoInt
          go_wp2_with fail
          refine KP.out.mono ?_
          rintro e w4 ⟨rfl, hp⟩
          obtain ⟨va4, hs4, ho4, ha4, hg4, hb4⟩ := HO.out.turn hp
          have hba : Below w4.heap.size w4 (w4.alloc (.cells #[.int .i64 n] 3)) := (Below.refl _ w4).alloc (Nat.le_refl _) _
          have hrn : Rd (w4.alloc (.cells #[.int .i64 n] 3)) .i64 (some ⟨w4.heap.size, 0, none⟩) [n] := by
            refine .inr ⟨w4.heap.size, 0, rfl, by rw [World.size_alloc]; omega, fun j hj => ?_⟩
            match j, hj with
            | 0, _ => rw [cell_of_row _ _ _ _ _ _ (heap_alloc_new w4 _)]; rfl
          have HRN := Lib.hid hrn.add
          have HOW := Lib.hid (own_keep ho4 hba)
          have HBA := Lib.hid (Nat.le_trans hb4.size hba.size)
          have hlx : xs.length ≤ 60 := by have := HL.out; omega
          have H63 := Lib.hid (show xs.length + 1 ≤ maxLen by unfold maxLen; omega)
          have HBY := Lib.hid (show (xs.length + 1) * 8 ≤ 140737488355328 by omega)
          have HON := Lib.hid (show ∀ u ∈ [Value.int .i64 n], u.oneCell' = true from fun u hu => by simp at hu; subst hu; rfl)
          have HS4 := Lib.hid hs4
          have HA4 := Lib.hid ha4
          have HG4 := Lib.hid hg4
          have HB4 := Lib.hid hb4
          have HBa := Lib.hid hba
          clear hp hs4 ho4 ha4 hg4 hb4 hba hrn KP
          go_wp2_with (at_builtin; refine wpList_append_own_at _ rfl _ _ 22 rfl w.heap.size 3 i0 _ 1 8 Try.underlying22 hi hz0 hz1 hz2 rfl (by decide) _ xs.length (xs.map (Value.int .i64)) rfl HOW.out ⟨w4.heap.size, 0, none⟩ 1 1 [.int .i64 n] rfl rfl HRN.out HON.out H63.out HBY.out HBA.out ?_; intro v5 w5 hown5 hgrow5 hz5 hblk5; clear hz5)
          have HO2 : Hid (OS w T pd va4 v5 (xs ++ [n]) w5) := by
            have hfr : Frm (fun k => (Value.slice Ao xs.length co).ownBlock = some k) w4 w5 := (Frm.below HBa.out).trans (Frm.grown hgrow5 (fun k e => e))
            refine Lib.hid ⟨HS4.out.keep hfr (fun k hk e => HA4.out k hk e), by simpa using hown5, fun j hj e => ?_, HG4.out, HB4.out.trans (hfr.toBelow HB4.out.size (fun k e => by have := (HOW.out.lt k e).1; omega))⟩
            rcases hblk5 with h5 | h5
            · exact HA4.out j hj (h5 ▸ e)
            · have h6 := HS4.out.in_ j hj
              rw [h5] at e
              injection e with e
              rw [World.size_alloc] at e
              omega
          have HL2 : Hid ((xs ++ [n]).length ≤ i + 1) := Lib.hid (by have := HL.out; simp; omega)
          go_meet
          exact Lib.hid ⟨_, _, HO2.out, HL2.out⟩
        · by_cases ht1 : t = 1
          · have ht := ht1
            have e0 : (t == 0) = false := by rw [beq_eq_false_iff_ne]; omega
            have e1 : (t == 1) = true := by rw [beq_iff_eq]; exact ht
            clear ht ht1
            have KP := Lib.hid (push_any n wr HO.out.st (by have := HL.out; omega))
            obtain ⟨i0, hi, hz0, hz1, hz2⟩ := info_parts infoInt
            go_wp2_with fail
            refine KP.out.mono ?_
            rintro e w4 ⟨rfl, hp⟩
            obtain ⟨va4, hs4, ho4, ha4, hg4, hb4⟩ := HO.out.turn hp
            have hba : Below w4.heap.size w4 (w4.alloc (.cells #[.int .i64 n] 3)) := (Below.refl _ w4).alloc (Nat.le_refl _) _
            have hrn : Rd (w4.alloc (.cells #[.int .i64 n] 3)) .i64 (some ⟨w4.heap.size, 0, none⟩) [n] := by
              refine .inr ⟨w4.heap.size, 0, rfl, by rw [World.size_alloc]; omega, fun j hj => ?_⟩
              match j, hj with
              | 0, _ => rw [cell_of_row _ _ _ _ _ _ (heap_alloc_new w4 _)]; rfl
            have HRN := Lib.hid hrn.add
            have HOW := Lib.hid (own_keep ho4 hba)
            have HBA := Lib.hid (Nat.le_trans hb4.size hba.size)
            have hlx : xs.length ≤ 60 := by have := HL.out; omega
            have H63 := Lib.hid (show xs.length + 1 ≤ maxLen by unfold maxLen; omega)
            have HBY := Lib.hid (show (xs.length + 1) * 8 ≤ 140737488355328 by omega)
            have HON := Lib.hid (show ∀ u ∈ [Value.int .i64 n], u.oneCell' = true from fun u hu => by simp at hu; subst hu; rfl)
            have HS4 := Lib.hid hs4
            have HA4 := Lib.hid ha4
            have HG4 := Lib.hid hg4
            have HB4 := Lib.hid hb4
            have HBa := Lib.hid hba
            clear hp hs4 ho4 ha4 hg4 hb4 hba hrn KP
            go_wp2_with (at_builtin; refine wpList_append_own_at _ rfl _ _ 22 rfl w.heap.size 3 i0 _ 1 8 Try.underlying22 hi hz0 hz1 hz2 rfl (by decide) _ xs.length (xs.map (Value.int .i64)) rfl HOW.out ⟨w4.heap.size, 0, none⟩ 1 1 [.int .i64 n] rfl rfl HRN.out HON.out H63.out HBY.out HBA.out ?_; intro v5 w5 hown5 hgrow5 hz5 hblk5; clear hz5)
            have HO2 : Hid (OS w T pd va4 v5 (xs ++ [n]) w5) := by
              have hfr : Frm (fun k => (Value.slice Ao xs.length co).ownBlock = some k) w4 w5 := (Frm.below HBa.out).trans (Frm.grown hgrow5 (fun k e => e))
              refine Lib.hid ⟨HS4.out.keep hfr (fun k hk e => HA4.out k hk e), by simpa using hown5, fun j hj e => ?_, HG4.out, HB4.out.trans (hfr.toBelow HB4.out.size (fun k e => by have := (HOW.out.lt k e).1; omega))⟩
              rcases hblk5 with h5 | h5
              · exact HA4.out j hj (h5 ▸ e)
              · have h6 := HS4.out.in_ j hj
                rw [h5] at e
                injection e with e
                rw [World.size_alloc] at e
                omega
            have HL2 : Hid ((xs ++ [n]).length ≤ i + 1) := Lib.hid (by have := HL.out; simp; omega)
            go_meet
            exact Lib.hid ⟨_, _, HO2.out, HL2.out⟩
          · by_cases ht2 : t = 2
            · have ht := ht2
              have e0 : (t == 0) = false := by rw [beq_eq_false_iff_ne]; omega
              have e1 : (t == 1) = false := by rw [beq_eq_false_iff_ne]; omega
              have e2 : (t == 2) = true := by rw [beq_iff_eq]; exact ht
              clear ht ht2
              have KP := Lib.hid (push_any n wr HO.out.st (by have := HL.out; omega))
              obtain ⟨i0, hi, hz0, hz1, hz2⟩ := info_parts infoInt
              go_wp2_with fail
              refine KP.out.mono ?_
              rintro e w4 ⟨rfl, hp⟩
              obtain ⟨va4, hs4, ho4, ha4, hg4, hb4⟩ := HO.out.turn hp
              have hba : Below w4.heap.size w4 (w4.alloc (.cells #[.int .i64 n] 3)) := (Below.refl _ w4).alloc (Nat.le_refl _) _
              have hrn : Rd (w4.alloc (.cells #[.int .i64 n] 3)) .i64 (some ⟨w4.heap.size, 0, none⟩) [n] := by
                refine .inr ⟨w4.heap.size, 0, rfl, by rw [World.size_alloc]; omega, fun j hj => ?_⟩
                match j, hj with
                | 0, _ => rw [cell_of_row _ _ _ _ _ _ (heap_alloc_new w4 _)]; rfl
              have HRN := Lib.hid hrn.add
              have HOW := Lib.hid (own_keep ho4 hba)
              have HBA := Lib.hid (Nat.le_trans hb4.size hba.size)
              have hlx : xs.length ≤ 60 := by have := HL.out; omega
              have H63 := Lib.hid (show xs.length + 1 ≤ maxLen by unfold maxLen; omega)
              have HBY := Lib.hid (show (xs.length + 1) * 8 ≤ 140737488355328 by omega)
              have HON := Lib.hid (show ∀ u ∈ [Value.int .i64 n], u.oneCell' = true from fun u hu => by simp at hu; subst hu; rfl)
              have HS4 := Lib.hid hs4
              have HA4 := Lib.hid ha4
              have HG4 := Lib.hid hg4
              have HB4 := Lib.hid hb4
              have HBa := Lib.hid hba
              clear hp hs4 ho4 ha4 hg4 hb4 hba hrn KP
              go_wp2_with (at_builtin; refine wpList_append_own_at _ rfl _ _ 22 rfl w.heap.size 3 i0 _ 1 8 Try.underlying22 hi hz0 hz1 hz2 rfl (by decide) _ xs.length (xs.map (Value.int .i64)) rfl HOW.out ⟨w4.heap.size, 0, none⟩ 1 1 [.int .i64 n] rfl rfl HRN.out HON.out H63.out HBY.out HBA.out ?_; intro v5 w5 hown5 hgrow5 hz5 hblk5; clear hz5)
              have HO2 : Hid (OS w T pd va4 v5 (xs ++ [n]) w5) := by
                have hfr : Frm (fun k => (Value.slice Ao xs.length co).ownBlock = some k) w4 w5 := (Frm.below HBa.out).trans (Frm.grown hgrow5 (fun k e => e))
                refine Lib.hid ⟨HS4.out.keep hfr (fun k hk e => HA4.out k hk e), by simpa using hown5, fun j hj e => ?_, HG4.out, HB4.out.trans (hfr.toBelow HB4.out.size (fun k e => by have := (HOW.out.lt k e).1; omega))⟩
                rcases hblk5 with h5 | h5
                · exact HA4.out j hj (h5 ▸ e)
                · have h6 := HS4.out.in_ j hj
                  rw [h5] at e
                  injection e with e
                  rw [World.size_alloc] at e
                  omega
              have HL2 : Hid ((xs ++ [n]).length ≤ i + 1) := Lib.hid (by have := HL.out; simp; omega)
              go_meet
              exact Lib.hid ⟨_, _, HO2.out, HL2.out⟩
            · by_cases ht3 : t = 3
              · have ht := ht3
                have e0 : (t == 0) = false := by rw [beq_eq_false_iff_ne]; omega
                have e1 : (t == 1) = false := by rw [beq_eq_false_iff_ne]; omega
                have e2 : (t == 2) = false := by rw [beq_eq_false_iff_ne]; omega
                have e3 : (t == 3) = true := by rw [beq_iff_eq]; exact ht
                clear ht ht3
                have KP := Lib.hid (pop_any wr HO.out.st (by have := HL.out; omega))
                by_cases hx : xs = []
                · subst hx
                  rw [show topI [] = -1 from rfl] at KP
                  have tp1 : ((-1 : Int) != -1) = false := by simp
                  have d1 : decide ((0 : Int) < (([] : List Int).length : Int)) = false := by decide
                  go_wp2_with fail
                  refine KP.out.mono ?_
                  rintro e w4 ⟨rfl, hp⟩
                  obtain ⟨va4, hs4, ho4, ha4, hg4, hb4⟩ := HO.out.turn hp
                  have HO2 : Hid (OS w T pd va4 (.slice Ao 0 co) [] w4) := Lib.hid ⟨hs4, ho4, ha4, hg4, hb4⟩
                  have HL2 : Hid (([] : List Int).length ≤ i + 1) := Lib.hid (Nat.zero_le _)
                  clear hp hs4 ho4 ha4 hg4 hb4 KP d1
                  go_wp2
                  go_meet
                  exact Lib.hid ⟨_, _, HO2.out, HL2.out⟩
                · obtain ⟨zs, y, rfl⟩ := snoc_of hx
                  rw [topI_snoc] at KP
                  rw [List.dropLast_concat] at KP
                  have hro := HRO.out
                  obtain ⟨bq, oq, rfl, hbq, hcq⟩ := rd_last hro
                  rw [List.length_append, List.length_cons, List.length_nil] at HO HC1 ⊢
                  obtain ⟨L, hL⟩ : ∃ L, zs.length = L := ⟨_, rfl⟩
                  rw [hL] at hcq HO HC1 ⊢
                  have hL6 : L ≤ 60 := by have := HL.out; simp at this; omega
                  have hmc : L ≤ co := by have := HC1.out; omega
                  have hmz : (L : Int) ≤ (co : Int) := by omega
                  have HLL := Lib.hid hL
                  have ty0 : (y != y) = false := by simp
                  have d1 : decide ((0 : Int) < (L : Int) + 1) = true := decide_eq_true (by omega)
                  clear hL hro hx
                  go_wp2_with fail
                  refine KP.out.mono ?_
                  rintro e w4 ⟨rfl, hp⟩
                  obtain ⟨va4, hs4, ho4, ha4, hg4, hb4⟩ := HO.out.turn hp
                  rw [List.length_append, List.length_cons, List.length_nil, HLL.out] at ho4
                  have hcut := own_cut (m := L) ho4 (Nat.le_succ _) (by simp)
                  rw [List.take_append_of_le_length (by rw [HLL.out]; exact Nat.le_refl _), List.take_of_length_le (by rw [HLL.out]; exact Nat.le_refl _)] at hcut
                  have HO2 : Hid (OS w T pd va4 (.slice (some ⟨bq, oq, none⟩) L co) zs w4) := Lib.hid ⟨hs4, by rw [HLL.out]; exact hcut, ha4, hg4, hb4⟩
                  have HL2 : Hid (zs.length ≤ i + 1) := Lib.hid (by have := HL.out; simp at this; omega)
                  clear hp hs4 ho4 ha4 hg4 hb4 KP d1 hcut hcq HO HC1 HRO HC2
                  go_wp2
                  go_meet
                  exact Lib.hid ⟨_, _, HO2.out, HL2.out⟩
              · by_cases ht4 : t = 4
                · have ht := ht4
                  have e0 : (t == 0) = false := by rw [beq_eq_false_iff_ne]; omega
                  have e1 : (t == 1) = false := by rw [beq_eq_false_iff_ne]; omega
                  have e2 : (t == 2) = false := by rw [beq_eq_false_iff_ne]; omega
                  have e3 : (t == 3) = false := by rw [beq_eq_false_iff_ne]; omega
                  have e4 : (t == 4) = true := by rw [beq_iff_eq]; exact ht
                  clear ht ht4
                  have KP := Lib.hid (remove_any n wr HO.out.st (by have := HL.out; omega))
                  have HPC := Lib.hid (posI_cases xs n)
                  go_wp2_with fail
                  refine KP.out.mono ?_
                  rintro e w4 ⟨rfl, hp⟩
                  obtain ⟨va4, hs4, ho4, ha4, hg4, hb4⟩ := HO.out.turn hp
                  have hro4 : Rd w4 .i64 Ao xs := by
                    obtain ⟨A9, c9, h9, _, _, _, hr9⟩ := Rd.own ho4
                    injection h9 with h9
                    rw [h9]
                    exact hr9
                  have HRO4 := Lib.hid hro4
                  have HS4 := Lib.hid hs4
                  have HO4 := Lib.hid ho4
                  have HA4 := Lib.hid ha4
                  have HG4 := Lib.hid hg4
                  have HB4 := Lib.hid hb4
                  have hlx : xs.length ≤ 60 := by have := HL.out; omega
                  clear hp hs4 ho4 ha4 hg4 hb4 KP hro4
                  go_wp2
                  go_loopw [4, 85] (fun ov kv wr => ∃ k : Nat, k ≤ xs.length ∧ ov = .slice Ao xs.length co ∧ kv = .int .i64 k ∧ Hid (∀ j : Nat, j < k → xs[j]? ≠ some n) ∧ Hid (wr = w4)) (fun _ kv _ => xs.length - (intOf kv).toNat)
                  case atStart => exact ⟨0, Nat.zero_le _, rfl, rfl, Lib.hid (fun j hj => absurd hj (Nat.not_lt_zero _)), Lib.hid rfl⟩
                  case round =>
                    obtain ⟨k, hk, rfl, rfl, HN, hwr⟩ := hrel
                    have hwr2 := hwr.out
                    subst hwr2
                    clear hwr
                    by_cases hkl : k < xs.length
                    · have dk : decide ((k : Int) < (xs.length : Int)) = true := decide_eq_true (by omega)
                      obtain ⟨x, hx⟩ : ∃ x, xs[k]? = some x := ⟨_, List.getElem?_eq_getElem hkl⟩
                      obtain ⟨bq, oq, hAq, hbq, hcq⟩ := HRO4.out.pos (by omega)
                      have x1 : wr.cell? ⟨bq, oq + k, none⟩ = some (.int .i64 x) := by rw [hcq k hkl, hx]; rfl
                      have HX := Lib.hid hx
                      subst hAq
                      clear hcq hx
                      by_cases hxn : x = n
                      · have tx : (x == n) = true := by rw [beq_iff_eq]; exact hxn
                        have hval : rmI xs n = xs.take k ++ xs.drop (k + 1) := by
                          have hkn : xs[k]? = some n := by rw [← hxn]; exact HX.out
                          unfold rmI
                          rcases HPC.out with ⟨_, h2⟩ | ⟨q, hq, hq2, hq3⟩
                          · exact absurd rfl (h2 n (List.mem_of_getElem? hkn))
                          · have : q = k := by
                              rcases Nat.lt_trichotomy q k with h | h | h
                              · exact absurd hq2 (HN.out q h)
                              · exact h
                              · exact absurd hkn (hq3 k h)
                            rw [hq, if_neg (by omega), Int.toNat_natCast, this]
                        have HVAL := Lib.hid hval
                        have HRA := Lib.hid (rd_takeO (k := k) HRO4.out)
                        have HRB := Lib.hid (rd_dropO (k := k + 1) HRO4.out)
                        have hkc : (k : Int) ≤ (co : Int) := by have := HC1.out; omega
                        have hkc2 : k ≤ co := by omega
                        have hkn : (k : Int) + 1 ≤ (xs.length : Int) := by omega
                        have hkn2 : k + 1 ≤ xs.length := by omega
                        have nk : (0 : Int) ≤ (k : Int) + 1 := by omega
                        have tk : ((k : Int) + 1).toNat = k + 1 := by omega
                        have wk : IntKind.i64.wrap ((k : Int) + 1) = (k : Int) + 1 := by rw [IntKind.wrap_i64]; omega
                        have hlt1 : (xs.take k).length = k := by simp; omega
                        have hlt2 : (xs.drop (k + 1)).length = xs.length - (k + 1) := by simp
                        have HL1 := Lib.hid hlt1
                        have HL22 := Lib.hid hlt2
                        have hba : Below wr.heap.size wr (wr.drew.alloc (.cells #[] 3)) := (Below.refl _ wr).drew.alloc (Nat.le_refl _) _
                        have HBA := Lib.hid hba
                        clear hxn hval hlt1 hlt2 hba
                        by_cases hcap : co = k + 1
                        · have HNIL := Lib.hid (show xs.drop (k + 1) = [] from List.drop_eq_nil_of_le (by have := HC1.out; omega))
                          have hcl : xs.length ≤ k + 1 := by have := HC1.out; omega
                          subst hcap
                          clear hkc
                          have hkc : (k : Int) ≤ (k : Int) + 1 := by omega
                          go_wp2_with fail
                          go_region_law (first
                            | (refine step_append_rdI (by rfl) _ _ (by rfl) wr.heap.size (.slice (some ⟨wr.heap.size, 0, none⟩) 0 0) 0 [] rfl (World.ownsRow_lit wr.drew #[] 0 (Nat.le_refl _) (by decide) rfl) (some ⟨bq, oq, none⟩) k (k + 1) rfl (xs.take k) HL1.out (HRA.out.below HBA.out) (fun e => by cases e) (by omega) HBA.out.size ?_; intro v5 w5 hown5 hg5; have hb5 : Below wr.heap.size wr w5 := HBA.out.grown hg5 HBA.out.size (fun j e => (by cases e; exact Nat.le_refl _)); rw [List.nil_append, Nat.zero_add] at hown5; clear hg5)
                            | (refine step_append_rdI (by rfl) _ _ (by rfl) wr.heap.size v5 k (xs.take k) rfl hown5 (some ⟨bq, oq, none⟩) 0 0 rfl [] rfl (.inl rfl) (fun e => by cases e) (by omega) hb5.size ?_; intro v6 w6 hown6 hg6; have hb6 : Below wr.heap.size wr w6 := hb5.grown hg6 hb5.size (fun j e => (hown5.lt j e).1)))
                          all_goals
                            rw [← HNIL.out] at hown6
                            have hlen : (xs.take k ++ xs.drop (k + 1)).length = k + 0 := by rw [List.length_append, HL1.out, HNIL.out]; rfl
                            have HO2 : Hid (OS w T pd va4 v6 (xs.take k ++ xs.drop (k + 1)) w6) := by
                              refine Lib.hid ⟨(HVAL.out ▸ HS4.out : StM T pd va4 (xs.take k ++ xs.drop (k + 1)) wr).below hb6, ?_, fun j hj e => ?_, HG4.out, HB4.out.trans (hb6.mono HB4.out.size)⟩
                              · rw [hlen]
                                exact own_move hown6 (fun _ _ => rfl) HB4.out.size
                              · have h1 := HS4.out.in_ j hj
                                have h2 := (hown6.lt j e).1
                                omega
                            have HL2 : Hid ((xs.take k ++ xs.drop (k + 1)).length ≤ i + 1) := Lib.hid (by have := HL.out; omega)
                            go_wp2
                            go_meet
                            exact Lib.hid ⟨_, _, HO2.out, HL2.out⟩
                        · go_wp2_with fail
                          go_region_law (first
                            | (refine step_append_rdI (by rfl) _ _ (by rfl) wr.heap.size (.slice (some ⟨wr.heap.size, 0, none⟩) 0 0) 0 [] rfl (World.ownsRow_lit wr.drew #[] 0 (Nat.le_refl _) (by decide) rfl) (some ⟨bq, oq, none⟩) k co rfl (xs.take k) HL1.out (HRA.out.below HBA.out) (fun e => by cases e) (by omega) HBA.out.size ?_; intro v5 w5 hown5 hg5; have hb5 : Below wr.heap.size wr w5 := HBA.out.grown hg5 HBA.out.size (fun j e => (by cases e; exact Nat.le_refl _)); rw [List.nil_append, Nat.zero_add] at hown5; clear hg5)
                            | (refine step_append_rdI (by rfl) _ _ (by rfl) wr.heap.size v5 k (xs.take k) rfl hown5 (some ⟨bq, oq + (k + 1), none⟩) (xs.length - (k + 1)) (co - (k + 1)) rfl (xs.drop (k + 1)) HL22.out (HRB.out.below hb5) (fun e => by cases e) (by omega) hb5.size ?_; intro v6 w6 hown6 hg6; have hb6 : Below wr.heap.size wr w6 := hb5.grown hg6 hb5.size (fun j e => (hown5.lt j e).1)))
                          all_goals
                            have hlen : (xs.take k ++ xs.drop (k + 1)).length = k + (xs.length - (k + 1)) := by rw [List.length_append, HL1.out, HL22.out]
                            have HO2 : Hid (OS w T pd va4 v6 (xs.take k ++ xs.drop (k + 1)) w6) := by
                              refine Lib.hid ⟨(HVAL.out ▸ HS4.out : StM T pd va4 (xs.take k ++ xs.drop (k + 1)) wr).below hb6, ?_, fun j hj e => ?_, HG4.out, HB4.out.trans (hb6.mono HB4.out.size)⟩
                              · rw [hlen]
                                exact own_move hown6 (fun _ _ => rfl) HB4.out.size
                              · have h1 := HS4.out.in_ j hj
                                have h2 := (hown6.lt j e).1
                                omega
                            have HL2 : Hid ((xs.take k ++ xs.drop (k + 1)).length ≤ i + 1) := Lib.hid (by have := HL.out; omega)
                            go_wp2
                            go_meet
                            exact Lib.hid ⟨_, _, HO2.out, HL2.out⟩
                      · have tx : (x == n) = false := by rw [beq_eq_false_iff_ne]; exact hxn
                        have HN2 : Hid (∀ j : Nat, j < k + 1 → xs[j]? ≠ some n) := Lib.hid (fun j hj => by
                          by_cases e : j = k
                          · subst e
                            rw [HX.out]
                            exact fun h => hxn (Option.some.inj h)
                          · exact HN.out j (by omega))
                        clear hxn
                        go_wp2
                        go_roundw
                        case rel => exact ⟨k + 1, by omega, rfl, by go_num, HN2, Lib.hid (by trivial)⟩
                        case measure => simp [intOf]; omega
                    · obtain rfl : k = xs.length := by omega
                      have dk : decide ((xs.length : Int) < (xs.length : Int)) = false := decide_eq_false (by omega)
                      have hval : rmI xs n = xs := by
                        unfold rmI
                        rcases HPC.out with ⟨h1, _⟩ | ⟨q, hq, hq2, _⟩
                        · rw [if_pos (by rw [h1]; decide)]
                        · exact absurd hq2 (HN.out q (List.getElem?_eq_some_iff.1 hq2).1)
                      have HO2 : Hid (OS w T pd va4 (.slice Ao xs.length co) xs wr) := Lib.hid ⟨hval ▸ HS4.out, HO4.out, HA4.out, HG4.out, HB4.out⟩
                      have HL2 : Hid (xs.length ≤ i + 1) := Lib.hid (Nat.le_succ_of_le HL.out)
                      clear hval HS4 HO4 HA4 HG4 HB4 HO HN HPC
                      go_wp2
                      go_meet
                      exact Lib.hid ⟨_, _, HO2.out, HL2.out⟩
                · by_cases ht5 : t = 5
                  · have ht := ht5
                    have e0 : (t == 0) = false := by rw [beq_eq_false_iff_ne]; omega
                    have e1 : (t == 1) = false := by rw [beq_eq_false_iff_ne]; omega
                    have e2 : (t == 2) = false := by rw [beq_eq_false_iff_ne]; omega
                    have e3 : (t == 3) = false := by rw [beq_eq_false_iff_ne]; omega
                    have e4 : (t == 4) = false := by rw [beq_eq_false_iff_ne]; omega
                    have e5 : (t == 5) = true := by rw [beq_iff_eq]; exact ht
                    clear ht ht5
                    have hlx : xs.length ≤ 60 := by have := HL.out; omega
                    go_upto_region 34 with fail
                    obtain ⟨kz, hkz, hkl⟩ : ∃ kz : Nat, n % ((xs.length : Int) + 1) = (kz : Int) ∧ kz ≤ xs.length := by
                      have h1 : 0 ≤ n % ((xs.length : Int) + 1) := Int.emod_nonneg _ (by omega)
                      have h2 : n % ((xs.length : Int) + 1) < (xs.length : Int) + 1 := Int.emod_lt_of_pos _ (by omega)
                      exact ⟨(n % ((xs.length : Int) + 1)).toNat, by omega, by omega⟩
                    rw [hkz]
                    clear hkz
                    have KP := Lib.hid (insert_any n kz wr HO.out.st (by omega) hkl)
                    go_wp2_with fail
                    refine KP.out.mono ?_
                    rintro e w4 ⟨rfl, hp⟩
                    obtain ⟨va4, hs4, ho4, ha4, hg4, hb4⟩ := HO.out.turn hp
                    have hro4 : Rd w4 .i64 Ao xs := by
                      obtain ⟨A9, c9, h9, _, _, _, hr9⟩ := Rd.own ho4
                      injection h9 with h9
                      rw [h9]
                      exact hr9
                    have HRO4 := Lib.hid hro4
                    have HS4 := Lib.hid hs4
                    have HG4 := Lib.hid hg4
                    have HB4 := Lib.hid hb4
                    clear hp hs4 ho4 ha4 hg4 hb4 KP hro4
                    have hba : Below w4.heap.size w4 (w4.drew.alloc (.cells #[] 3)) := (Below.refl _ w4).drew.alloc (Nat.le_refl _) _
                    have hbb : Below w4.heap.size w4 ((w4.drew.alloc (.cells #[] 3)).alloc (.cells #[.int .i64 n] 3)) := hba.alloc hba.size _
                    have hbc0 : Below w4.heap.size w4 (w4.drew.alloc (.cells #[.int .i64 n] 3)) := (Below.refl _ w4).drew.alloc (Nat.le_refl _) _
                    have hbc : Below w4.heap.size w4 ((w4.drew.alloc (.cells #[.int .i64 n] 3)).alloc (.cells #[] 3)) := hbc0.alloc hbc0.size _
                    have HBa := Lib.hid hba
                    have HBb := Lib.hid hbb
                    have HBc := Lib.hid hbc
                    have HOWa := Lib.hid (World.ownsRow_lit (base := w4.heap.size) (e := 3) (size := 1) w4.drew #[] 0 (Nat.le_refl _) (by decide) rfl)
                    have HOWb : Hid (((w4.drew.alloc (.cells #[] 3)).alloc (.cells #[.int .i64 n] 3)).ownsRow w4.heap.size 3 1 (.slice (some ⟨w4.heap.size, 0, none⟩) 0 0) 0 (([] : List Int).map (Value.int .i64))) := Lib.hid (HOWa.out.alloc _)
                    have HOWc : Hid (((w4.drew.alloc (.cells #[.int .i64 n] 3)).alloc (.cells #[] 3)).ownsRow w4.heap.size 3 1 (.slice (some ⟨w4.heap.size + 1, 0, none⟩) 0 0) 0 (([] : List Int).map (Value.int .i64))) := Lib.hid (by
                      have := World.ownsRow_lit (base := w4.heap.size) (e := 3) (size := 1) (w4.drew.alloc (.cells #[.int .i64 n] 3)) #[] 0 hbc0.size (by decide) rfl
                      rwa [World.size_alloc] at this)
                    have HRNb : Hid (Rd ((w4.drew.alloc (.cells #[] 3)).alloc (.cells #[.int .i64 n] 3)) .i64 (some ⟨w4.heap.size + 1, 0, none⟩) [n]) := Lib.hid (by
                      have := rd_one (w4.drew.alloc (.cells #[] 3)) n
                      rwa [World.size_alloc] at this)
                    have HRNc : Hid (Rd ((w4.drew.alloc (.cells #[.int .i64 n] 3)).alloc (.cells #[] 3)) .i64 (some ⟨w4.heap.size, 0, none⟩) [n]) := Lib.hid ((rd_one w4.drew n).below ((Below.refl _ _).alloc (Nat.le_refl _) _))
                    clear hba hbb hbc0 hbc
                    cases Ao with
                    | none =>
                      obtain rfl : xs = [] := by
                        rcases HRO4.out with h | ⟨b9, off9, h, _⟩
                        · exact h
                        · cases h
                      obtain rfl : kz = 0 := by simpa using hkl
                      obtain rfl : co = 0 := HC2.out rfl
                      have HL1 := Lib.hid (show (([] : List Int).take 0).length = 0 from rfl)
                      have HL22 := Lib.hid (show (([] : List Int).drop 0).length = 0 from rfl)
                      have HRA : Hid (∀ W : World, Rd W .i64 none (([] : List Int).take 0)) := Lib.hid (fun _ => .inl rfl)
                      have HRB : Hid (∀ W : World, Rd W .i64 none (([] : List Int).drop 0)) := Lib.hid (fun _ => .inl rfl)
                      have h00 : ((0 : Nat) : Int) ≤ ((0 : Nat) : Int) := Int.le_refl _
                      go_upto_region 35 with fail
                      go_region_law (first
                        | (refine step_append_rdI (by rfl) _ _ (by rfl) w4.heap.size (.slice (some ⟨w4.heap.size, 0, none⟩) 0 0) 0 [] rfl HOWb.out none 0 0 rfl (([] : List Int).take 0) HL1.out (HRA.out _) (fun e => by cases e <;> rfl) (by omega) HBb.out.size ?_; intro v5 w5 hown5 hg5; have hb5 : Below w4.heap.size w4 w5 := HBb.out.grown hg5 HBb.out.size (fun j e => (HOWb.out.lt j e).1); rw [List.nil_append, Nat.zero_add] at hown5; have hrn5 := rd_grown HRNb.out hg5 (fun ad e1 e2 => by cases e1; injection e2 with e2; simp at e2); clear hg5)
                        | (refine step_append_rdI (by rfl) _ _ (by rfl) w4.heap.size (.slice (some ⟨w4.heap.size + 1, 0, none⟩) 0 0) 0 [] rfl HOWc.out none 0 0 rfl (([] : List Int).take 0) HL1.out (HRA.out _) (fun e => by cases e <;> rfl) (by omega) HBc.out.size ?_; intro v5 w5 hown5 hg5; have hb5 : Below w4.heap.size w4 w5 := HBc.out.grown hg5 HBc.out.size (fun j e => (HOWc.out.lt j e).1); rw [List.nil_append, Nat.zero_add] at hown5; have hrn5 := rd_grown HRNc.out hg5 (fun ad e1 e2 => by cases e1; injection e2 with e2; simp at e2); clear hg5)
                        | (refine step_append_rdI (by rfl) _ _ (by rfl) w4.heap.size (.slice (some ⟨w4.heap.size, 0, none⟩) 0 0) 0 [] rfl HOWa.out none 0 0 rfl (([] : List Int).take 0) HL1.out (HRA.out _) (fun e => by cases e <;> rfl) (by omega) HBa.out.size ?_; intro v5 w5 hown5 hg5; have hb5 : Below w4.heap.size w4 w5 := HBa.out.grown hg5 HBa.out.size (fun j e => (HOWa.out.lt j e).1); rw [List.nil_append, Nat.zero_add] at hown5; clear hg5)
                        | (refine step_append_rdI (by rfl) _ _ (by rfl) w4.heap.size v5 0 (([] : List Int).take 0) rfl hown5 (some ⟨w4.heap.size + 1, 0, none⟩) 1 1 rfl [n] rfl hrn5 (fun e => by cases e) (by omega) hb5.size ?_; intro v6 w6 hown6 hg6; have hb6 : Below w4.heap.size w4 w6 := hb5.grown hg6 hb5.size (fun j e => (hown5.lt j e).1); clear hg6)
                        | (refine step_append_rdI (by rfl) _ _ (by rfl) w4.heap.size v5 0 (([] : List Int).take 0) rfl hown5 (some ⟨w4.heap.size, 0, none⟩) 1 1 rfl [n] rfl hrn5 (fun e => by cases e) (by omega) hb5.size ?_; intro v6 w6 hown6 hg6; have hb6 : Below w4.heap.size w4 w6 := hb5.grown hg6 hb5.size (fun j e => (hown5.lt j e).1); clear hg6)
                        | (refine step_append_rdI (by rfl) _ _ (by rfl) w4.heap.size v5 0 (([] : List Int).take 0) rfl (own_keep hown5 ((Below.refl _ w5).alloc (Nat.le_refl _) (.cells #[.int .i64 n] 3))) (some ⟨w5.heap.size, 0, none⟩) 1 1 rfl [n] rfl (rd_one w5 n) (fun e => by cases e) (by omega) (hb5.alloc hb5.size (.cells #[.int .i64 n] 3)).size ?_; intro v6 w6 hown6 hg6; have hb6 : Below w4.heap.size w4 w6 := (hb5.alloc hb5.size (.cells #[.int .i64 n] 3)).grown hg6 (hb5.alloc hb5.size (.cells #[.int .i64 n] 3)).size (fun j e => (hown5.lt j e).1); clear hg6)
                        | (refine step_append_rdI (by rfl) _ _ (by rfl) w4.heap.size v6 (0 + 1) ((([] : List Int).take 0) ++ [n]) rfl hown6 none 0 0 rfl (([] : List Int).drop 0) HL22.out (HRB.out _) (fun e => by cases e <;> rfl) (by omega) hb6.size ?_; intro v7 w7 hown7 hg7; have hb7 : Below w4.heap.size w4 w7 := hb6.grown hg7 hb6.size (fun j e => (hown6.lt j e).1); clear hg7))
                      all_goals
                        have hlen : ((([] : List Int).take 0) ++ n :: (([] : List Int).drop 0)).length = 0 + 1 + 0 := by (rw [List.length_append, List.length_cons, HL1.out, HL22.out]) <;> omega
                        have HO2 : Hid (OS w T pd va4 v7 ((([] : List Int).take 0) ++ n :: (([] : List Int).drop 0)) w7) := by
                          refine Lib.hid ⟨HS4.out.below hb7, ?_, fun j hj e => ?_, HG4.out, HB4.out.trans (hb7.mono HB4.out.size)⟩
                          · rw [hlen]
                            have h9 := own_move hown7 (fun _ _ => rfl) HB4.out.size
                            rw [List.append_assoc, List.singleton_append] at h9
                            exact h9
                          · have h1 := HS4.out.in_ j hj
                            have h2 := (hown7.lt j e).1
                            omega
                        have HL2 : Hid (((([] : List Int).take 0) ++ n :: (([] : List Int).drop 0)).length ≤ i + 1) := Lib.hid (by have := HL.out; have h5 := hkl; rw [hlen]; (try simp at this h5); omega)
                        clear hown7 hown6 hown5 hb7 hb6 hb5 hlen
                        go_wp2
                        go_meet
                        exact Lib.hid ⟨_, _, HO2.out, HL2.out⟩
                    | some ao =>
                      have hkc : kz ≤ co := by have := HC1.out; omega
                      have hkcI : (kz : Int) ≤ (co : Int) := by omega
                      have hknI : (kz : Int) ≤ (xs.length : Int) := by omega
                      have HL1 := Lib.hid (show (xs.take kz).length = kz by simp; omega)
                      obtain ⟨bq, oq, spq⟩ := ao
                      have hsp : xs = [] ∨ spq = none := by
                        rcases HRO4.out with h | ⟨b9, off9, h, _⟩
                        · exact .inl h
                        · injection h with h
                          injection h with _ _ h
                          exact .inr h
                      obtain rfl : spq = none := by
                        rcases HO.out.ow.2 with ⟨h1, _⟩ | ⟨g9, cap9, cur9, h1, _⟩
                        · cases h1
                        · injection h1 with h1
                          injection h1 with h1
                          injection h1
                      clear hsp
                      have hro := HRO4.out
                      have hxl : xs.length ≤ 60 := hlx
                      go_upto_region 35 with fail
                      refine r35_go w4 _ _ xs bq oq xs.length co kz n _ _ _ _ _ _ _ _ _ _ _ _ _ _ _ _ _ _ _ _ _ _ _ _ _ _ _ _ _ _ _ _ _ _ _ _ _ _ _ _ _ _ _ _ _ _ _ _ _ _ _ _ _ _ _ _ _ _ _ _ _ _ _ _ _ _ _ _ _ _ _ _ _ _ _ _ _ _ _ _ _ _ _ _ _ _ _ _ _ _ _ _ _ _ _ _ _ _ _ _ _ _ _ _ _ _ _ _ _ _ _ _ _ _ _ _ _ _ _ _ _ _ _ _ _ _ _ _ _ _ _ _ _ _ _ _ _ _ _ _ _ _ _ _ _ _ _ _ _ _ _ _ _ _ _ _ _ _ _ _ _ _ _ _ _ _ rfl hxl hkl HC1.out hro ?_
                      rintro v7 w7 y116 y117 y118 y119 y120 y121 y122 y123 y124 y125 y126 y127 hown7 hb7
                      have HO2 : Hid (OS w T pd va4 v7 (xs.take kz ++ n :: xs.drop kz) w7) := by
                        refine Lib.hid ⟨HS4.out.below hb7, own_move hown7 (fun _ _ => rfl) HB4.out.size, fun j hj e => ?_, HG4.out, HB4.out.trans (hb7.mono HB4.out.size)⟩
                        have h1 := HS4.out.in_ j hj
                        have h2 := (hown7.lt j e).1
                        omega
                      have HL2 : Hid ((xs.take kz ++ n :: xs.drop kz).length ≤ i + 1) := Lib.hid (by have := HL.out; simp; omega)
                      clear hown7 hb7
                      go_wp2
                      go_meet
                      exact Lib.hid ⟨_, _, HO2.out, HL2.out⟩
                  · have e0 : (t == 0) = false := by rw [beq_eq_false_iff_ne]; omega
                    have e1 : (t == 1) = false := by rw [beq_eq_false_iff_ne]; omega
                    have e2 : (t == 2) = false := by rw [beq_eq_false_iff_ne]; omega
                    have e3 : (t == 3) = false := by rw [beq_eq_false_iff_ne]; omega
                    have e4 : (t == 4) = false := by rw [beq_eq_false_iff_ne]; omega
                    have e5 : (t == 5) = false := by rw [beq_eq_false_iff_ne]; omega
                    have HO2 := HO
                    have HL2 : Hid (xs.length ≤ i + 1) := Lib.hid (Nat.le_succ_of_le HL.out)
                    go_wp2
                    go_meet
                    exact Lib.hid ⟨_, _, HO2.out, HL2.out⟩
      case rest =>
        obtain ⟨va4, ys, HO2', HL2'⟩ := hcut.out
        have HO2 := Lib.hid HO2'
        have HL2 := Lib.hid HL2'
        clear HO2' HL2' hcut
        obtain ⟨As, cs, rfl, _, _, hrs⟩ := HO2.out.st.rd.form
        obtain ⟨Ao2, co2, rfl, _, _, _, hro⟩ := Rd.own HO2.out.ow
        have c1 := HO2.out.st.cells.2.1
        obtain ⟨L, hL⟩ : ∃ L, ys.length = L := ⟨_, rfl⟩
        have HO3 := HO2
        rw [hL] at HO3 c1 ⊢
        clear hrs
        have KT := top_any _ HO2.out.st (by have := HL2.out; omega)
        obtain ⟨tp, htp⟩ : ∃ tp, topI ys = tp := ⟨_, rfl⟩
        rw [htp] at KT
        have tt : (tp != tp) = false := by simp
        have HLN := Lib.hid hL
        have HKT : Hid _ := Lib.hid KT
        by_cases hy : ys = []
        · have hL0 : L = 0 := by rw [← hL, hy]; rfl
          have ht1 : tp = -1 := by rw [← htp, hy]; rfl
          subst hL0 ht1
          have d0 : decide ((0 : Int) < ((0 : Nat) : Int)) = false := by decide
          have tL : (((0 : Nat) : Int) != ((0 : Nat) : Int)) = false := by simp
          clear hro HO2 hL KT htp hy
          go_wp2_with fail
          refine HKT.out.mono ?_
          rintro e w6 ⟨rfl, rfl⟩
          go_wp2
          go_loopw [153] (fun kv wr => ∃ k : Nat, k ≤ 0 ∧ kv = .int .i64 k ∧ Hid (OS w T pd (.slice As (0) cs) (.slice Ao2 (0) co2) ys wr)) (fun kv _ => 0 - (intOf kv).toNat)
          case atStart => exact ⟨0, Nat.zero_le _, rfl, HO3⟩
          case round =>
            obtain ⟨k, hk, rfl, HQ⟩ := hrel
            by_cases hkl : k < 0
            · exact absurd hkl (Nat.not_lt_zero _)
            · have dk : decide ((k : Int) < ((0 : Nat) : Int)) = false := decide_eq_false (by omega)
              go_wp2
              go_roundw
              case rel => first | exact ⟨i + 1, _, ys, by omega, by omega, by go_num, HQ, HL2⟩ | ((repeat apply Exists.intro); exact ⟨⟨i + 1, _, ys, by omega, by omega, by go_num, HQ, HL2⟩, rfl⟩)
              case measure => simp [intOf]; omega
        · obtain ⟨zs, y, hzy⟩ := snoc_of hy
          obtain ⟨m, rfl⟩ : ∃ m, L = m + 1 := ⟨zs.length, by rw [← hL, hzy]; simp⟩
          have hm : zs.length = m := by rw [hzy] at hL; simpa using hL
          have hm6 : m ≤ 100 := by have := HL2.out; omega
          rw [hzy] at hro htp
          obtain ⟨bo, oo, rfl, hbo, hco⟩ := rd_last hro
          rw [topI_snoc] at htp
          rw [htp, hm] at hco
          have d0 : decide ((0 : Int) < (m : Int) + 1) = true := decide_eq_true (by omega)
          have tL : ((m : Int) + 1 != (m : Int) + 1) = false := by simp
          clear hro HO2 hL hm hy KT htp hzy
          go_wp2_with fail
          refine HKT.out.mono ?_
          rintro e w6 ⟨rfl, rfl⟩
          go_wp2
          go_loopw [153] (fun kv wr => ∃ k : Nat, k ≤ m + 1 ∧ kv = .int .i64 k ∧ Hid (OS w T pd (.slice As (m + 1) cs) (.slice (some ⟨bo, oo, none⟩) (m + 1) co2) ys wr)) (fun kv _ => m + 1 - (intOf kv).toNat)
          case atStart => exact ⟨0, Nat.zero_le _, rfl, HO3⟩
          case round =>
            obtain ⟨k, hk, rfl, HQ⟩ := hrel
            by_cases hkl : k < m + 1
            · have dk : decide ((k : Int) < ((m : Int) + 1)) = true := decide_eq_true (by omega)
              obtain ⟨A1, e1, z1, _, _, _, r1⟩ := Rd.own (by have := HQ.out.ow; exact this)
              obtain ⟨A2, e2, z2, _, _, r2⟩ := HQ.out.st.rd.form
              injection z1 with z1 z3 z4
              injection z2 with z2 z5 z6
              subst z1 z2
              have hlen := HLN.out
              obtain ⟨b1, o1, h1, hbo, ho3⟩ := r1.pos (by omega)
              cases h1
              obtain ⟨bs, os3, rfl, hbs, hs3⟩ := r2.pos (by omega)
              have x1 := ho3 k (by omega)
              have x2 := hs3 k (by omega)
              obtain ⟨x, hx⟩ : ∃ x, ys[k]?.getD 0 = x := ⟨_, rfl⟩
              rw [hx] at x1 x2
              have tx : (x != x) = false := by simp
              have cq := HQ.out.st.cells.2.1
              have HQD := Lib.hid (fun q => HQ.out.below (W' := wr.drewN q) (below_drewN (Below.refl _ wr) q))
              clear ho3 hs3 hx z3 z4 z5 z6 r1 r2 hlen
              go_wp2_with fail
              go_quiet (fail)
              go_wp2
              go_roundw
              case rel => exact ⟨k + 1, by omega, by go_num, Lib.hid (HQD.out _)⟩
              case measure => simp [intOf]; omega
            · have dk : decide ((k : Int) < ((m : Int) + 1)) = false := decide_eq_false (by omega)
              go_wp2
              go_roundw
              case rel => first | exact ⟨i + 1, _, ys, by omega, by omega, by go_num, HQ, HL2⟩ | ((repeat apply Exists.intro); exact ⟨⟨i + 1, _, ys, by omega, by omega, by go_num, HQ, HL2⟩, rfl⟩)
              case measure => simp [intOf]; omega
    · by_cases hlt : i < os.length
      · obtain rfl : i = 60 := by omega
        clear hgo
        have g60 : decide (((60 : Nat) : Int) < 60) = false := by decide
        go_wp2
        go_ret
        exact ⟨rfl, HO.out.bw⟩
      · clear hgo
        go_wp2
        go_ret
        exact ⟨rfl, HO.out.bw⟩
end Go.Proofs.Ytgfjilokpmafpab
