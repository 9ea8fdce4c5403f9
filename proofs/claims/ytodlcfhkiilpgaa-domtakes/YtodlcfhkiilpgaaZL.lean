/- A step of the laws of layer 8: Say, ahead of another one. A step of the laws of layer 8: Add. -/
import Derived.Test.YtodlcfhkiilpgaaZK
import Derived.Test.YtodlcfhkiilpgaaZB
import Derived.Laws.BitsLemmas
namespace Go.Proofs.Ytodlcfhkiilpgaa
open Go.RowKit Go.Shelf Go.Lib

set_option maxRecDepth 100000 in
set_option maxHeartbeats 8000000 in
theorem sw_3p (w1 W : World) (D : Nat) (v va : Value) (ns : List Nd) (os : List Ow) (m : Nat) (F : Nat → Value) (ob : Nat) (o : OpD) (a b c : Int) (h : HS w1 D v ns va os m F ob o a b c W) (hk : o.k = 3) (hin : a < os.length) (hse' : ¬ o.s.toList = []) (hc1 : c ≠ -1) (hq : 0 ≤ Lib.idxOf (pAt (os.map Ow.pl) a Pl.kids []) c) : Code.wp Try.prog plS (NQ w1 D m F) ⟨frm277 F, []⟩ W := by
  obtain ⟨st, e5, e6, e8, e10, e11, e12, e65, hob, hobw, hobd, hobo, ha, hb, hc, hsz, hm⟩ := h
  rw [hk] at e65
  have hl2 := st.len2
  have hle := st.len
  have hkd := st.kids
  have hda := st.data
  obtain ⟨Av, cv, hv, _, _, hgv⟩ := st.own.sl
  subst hv
  obtain ⟨g, rfl, hbg, hgl⟩ := hgv st.pos
  have x5 : W.cell? ⟨ob, 5, none⟩ = some (.string o.s) := by rw [cell_of_row _ _ _ _ _ _ hob]; rfl
  have HST := Lib.hid st
  have HOB := Lib.hid hob
  have HOBO := Lib.hid hobo
  have HSZ := Lib.hid hsz
  have KS := Lib.hid (fun (W' : World) (h : DocM w1.heap.size D v false ns W') => say_any a o.s c W' h (by omega) (fun x hx => by have := hkd x hx; omega) (fun x hx => by have := hda x hx; omega))
  obtain ⟨sv, hsv⟩ : ∃ sv, o.s = sv := ⟨_, rfl⟩
  rw [hsv] at x5 KS HSZ
  have HSV := Lib.hid hsv
  obtain ⟨i, rfl⟩ : ∃ i : Nat, a = i := ⟨a.toNat, by omega⟩
  have d1 : decide ((os.length : Int) ≤ (i : Int)) = false := decide_eq_false (by omega)
  have hil : i < os.length := by omega
  have hnil : ¬ os.length ≤ i := by omega
  rw [hsv] at hse'
  have hse : sv.toList.isEmpty = false := by
    cases h : sv.toList.isEmpty with
    | true => exact absurd (List.isEmpty_iff.1 h) hse'
    | false => rfl
  have hse2 : ¬ sv.toList = [] := hse'
  obtain ⟨x, hx⟩ : ∃ x, os[i]? = some x := ⟨_, List.getElem?_eq_getElem hil⟩
  obtain ⟨A0, c00, e0, hK0le, hK0mx, hA0, hr0⟩ := kid_form st.own hx
  have c4 : W.cell? ⟨g, i * 6 + 4, none⟩ = some (.slice A0 x.pl.kids.length c00) := by
    have := st.own.cell hx (show 4 < 6 by omega)
    simp only [Ow.cs, List.getElem?_cons_succ, List.getElem?_cons_zero, e0] at this
    exact this
  have hx' : (os.map Ow.pl)[i]? = some x.pl := by rw [List.getElem?_map, hx]; rfl
  have hkle : x.pl.kids.length ≤ os.length := by have := st.tr.kids_le hx'; rw [List.length_map] at this; exact this
  have HKK := Lib.hid (fun (j : Nat) (l : Int) (h : x.pl.kids[j]? = some l) => kid_kind st.tr hx h)
  obtain ⟨K, hK⟩ : ∃ K, x.pl.kids = K := ⟨_, rfl⟩
  rw [hK] at c4 hr0 hK0le e0 hkle HKK
  have hpk : pAt (os.map Ow.pl) (i : Int) Pl.kids [] = K := by rw [pAt_some hx', hK]
  have hgI : (i : Int) * 6 = ((i * 6 : Nat) : Int) := by omega
  have HNARG : Hid (¬ (inQ (os.map Ow.pl) (i : Int) = false ∨ sv.toList = [])) := Lib.hid (by rintro (h | h); rw [inQ_of hx'] at h; cases h; exact hse' h)
  have HPK := Lib.hid hpk
  have HR0 := Lib.hid hr0
  rw [hpk] at hq
  have d3 : (c != -1) = true := by rw [bne_iff_ne]; exact hc1
  obtain ⟨k, hq1, hq2⟩ : ∃ k : Nat, Lib.idxOf K c = (k : Int) ∧ K[k]? = some c := by rcases idx_cases K c with h | h; omega; exact h
  have KA0 := at_any K c A0 c00 W hr0 (by omega)
  rw [hq1] at KA0
  replace KA0 := Lib.hid KA0
  have d4 : decide ((k : Int) < 0) = false := decide_eq_false (by omega)
  have HPL : Hid (plQ (os.map Ow.pl) (i : Int) c = (k : Int)) := Lib.hid (by unfold plQ; rw [if_neg hc1, hpk, hq1])
  have hkl : k ≤ K.length := Nat.le_of_lt (List.getElem?_eq_some_iff.1 hq2).1
  have hkk : k ≤ os.length := by omega
  have hk6 : k ≤ 121 := by omega
  cases k with
  | zero =>
    have HSI : Hid (sayI (os.map Ow.pl) (i : Int) c = none) := Lib.hid (by unfold sayI; rw [HPL.out]; rfl)
    have HX : Hid (txQ sv = txQ sv) := Lib.hid rfl
    have KAD := ladd_any ⟨3, ⟨#[]⟩, sv, 0, [], 0⟩ W st.own st.bw.size (by omega)
    replace KAD := Lib.hid KAD
    have HOBL := Lib.hid (Array.getElem?_eq_some_iff.1 hob).1
    clear st hob hk hl2 hkd hda hgv hobw hobd hobo hsz hsv hin hse' hx hx' hK hpk e0 hr0 hA0 hc1 hq hq1 hq2
    unfold frm277
    rw [e5, e6, e8, e10, e11, e12, e65]
    clear e5 e6 e8 e10 e11 e12 e65
    conv => arg 2; whnf
    go_wp2_with fail
    refine KA0.out.mono ?_
    rintro e wx ⟨rfl, rfl⟩
    go_wp2_with fail
    refine KA0.out.mono ?_
    rintro e wx ⟨rfl, rfl⟩
    go_wp2_with fail
    refine KAD.out.mono ?_
    rintro e W2 ⟨va1, os1, rfl, hp1, ho1, hf1, hn1⟩
    replace hp1 : os1.map Ow.pl = os.map Ow.pl ++ [txQ sv] := hp1
    have hpr1 := HST.out.pr.law ho1 hf1 hn1
    have hln1 : os1.length = os.length + 1 := by
      have := congrArg List.length hp1
      rw [List.length_append, List.length_map, List.length_map] at this
      exact this
    have hob1 := (hf1.block ob HOBL.out (fun e => HOBO.out (.inl e))).trans HOB.out
    have hno1 : ¬ OB va1 os1 ob := fun e => by
      rcases hn1 ob e with e | e
      · exact HOBO.out e
      · have := HOBL.out; omega
    have htr1 : Tr (os1.map Ow.pl) := by
      rw [hp1]
      refine tr_push HST.out.tr (fun j y hy => ?_) (by simp)
      match j, hy with
      | 0, hy => simp at hy; subst hy; exact ⟨rfl, rfl, (show (1 : Int) ≤ 3 by omega), .inl rfl⟩
      | j + 1, hy => simp at hy
    have KL := Lib.hid (lput_any (i : Int) (os.length : Int) c W2 ho1 htr1 hpr1.bw.size (by omega))
    have HPR1 := Lib.hid hpr1
    have HP1 := Lib.hid hp1
    have HOB1 := Lib.hid hob1
    have HNO1 := Lib.hid hno1
    have HF1 := Lib.hid hf1
    obtain ⟨A1, cv1, hv1, _⟩ := ho1.sl
    rw [hln1] at hv1
    subst hv1
    have hwr : IntKind.i64.wrap ((os.length : Int) + 1 - 1) = (os.length : Int) := by rw [IntKind.wrap_i64]; omega
    have hwr2 : ((os.length : Int) + 1 - 1) = (os.length : Int) := by omega
    clear hp1 ho1 hf1 hn1 hpr1 hob1 htr1 hno1 hln1 KAD c4
    go_wp2_with fail
    refine KL.out.mono ?_
    rintro e W3 ⟨os', rfl, hp, ho, hf, hn⟩
    have hpr3 := HPR1.out.law ho hf hn
    have hob3 := (hf.block ob (Array.getElem?_eq_some_iff.1 HOB1.out).1 (fun e => HNO1.out (.inl e))).trans HOB1.out
    have x53 : W3.cell? ⟨ob, 5, none⟩ = some (.string sv) := by rw [cell_of_row _ _ _ _ _ _ hob3, ← HSV.out]; rfl
    obtain ⟨z, hz⟩ : ∃ z, putEQ (os1.map Ow.pl) (i : Int) (os.length : Int) c = z := ⟨_, rfl⟩
    have HLS : Hid (LS w1 D v ns _ os os' (i : Int) sv c z W3) := Lib.hid ⟨hpr3, by
      unfold sayQ
      rw [if_neg HNARG.out, if_neg (by rw [HPL.out]; omega), HSI.out, hp, ← hz, HP1.out, List.length_map]⟩
    rw [hz]
    have dz : (z != z) = false := by simp
    clear hp ho hf hn hpr3 hob3 hz KL x5
    have KS2 := Lib.hid (KS.out _ HLS.out.pr.doc)
    go_wp2_with fail
    refine KS2.out.mono ?_
    rintro e W4 ⟨ns', z', hR, rfl, hA⟩
    obtain ⟨hzz, v', hst'⟩ := say_fin HST.out hm HSZ.out HLS.out hR hA
    subst hzz
    have HST' := Lib.hid hst'
    clear hR hA hst'
    go_wp2
    exact ⟨⟨rfl, rfl, rfl, rfl, v', ns', _, HST'.out⟩, rfl⟩
  | succ j =>
    obtain ⟨l, hlj⟩ : ∃ l, K[j]? = some l := ⟨_, List.getElem?_eq_getElem (by omega)⟩
    obtain ⟨q, y, rfl, hy⟩ := HKK.out j l hlj
    obtain ⟨bq, oq, hAq, hbq, hcq⟩ := hr0.pos (by omega)
    have cj : W.cell? ⟨bq, oq + j, none⟩ = some (.int .i64 (q : Int)) := by rw [hcq j (by omega), hlj]; rfl
    subst hAq
    have hgQ : (q : Int) * 6 = ((q * 6 : Nat) : Int) := by omega
    have hql := (List.getElem?_eq_some_iff.1 hy).1
    have cy0 : W.cell? ⟨g, q * 6 + 0, none⟩ = some (.int .i64 y.pl.kind) := st.own.cell hy (show 0 < 6 by omega)
    rw [Nat.add_zero] at cy0
    have hy' : (os.map Ow.pl)[q]? = some y.pl := by rw [List.getElem?_map, hy]; rfl
    have dj : decide ((0 : Int) < ((j + 1 : Nat) : Int)) = true := decide_eq_true (by omega)
    have dj' : decide ((0 : Int) < (j : Int) + 1) = true := decide_eq_true (by omega)
    have hjk : j < K.length := by omega
    have hsi : ∀ b, (y.pl.kind == 3) = b → sayI (os.map Ow.pl) (i : Int) c = if b then some q else none := fun b hb => by
      unfold sayI
      rw [HPL.out, if_pos (by omega), hpk, Int.toNat_natCast, Nat.add_sub_cancel, hlj]
      show (if (pAt (os.map Ow.pl) (q : Int) Pl.kind 0 == 3) = true then some (q : Int).toNat else none) = _
      rw [pAt_some hy', hb, Int.toNat_natCast]
    obtain ⟨ky, hky⟩ : ∃ ky, y.pl.kind = ky := ⟨_, rfl⟩
    rw [hky] at cy0 hsi
    by_cases h3 : ky = 3
    · subst h3
      have HSI : Hid (sayI (os.map Ow.pl) (i : Int) c = some q) := Lib.hid (hsi true rfl)
      have cd : W.cell? ⟨g, q * 6 + 2, none⟩ = some (.string y.pl.data) := st.own.cell hy (show 2 < 6 by omega)
      have fd : W.frozen? ⟨g, q * 6 + 2, none⟩ = false := st.own.row.frozenAt _
      have hds : y.pl.data.size ≤ 50 * m := st.dat _ (List.mem_of_getElem? hy')
      have hds2 : y.pl.data.size + sv.size ≤ 1000000 := by have := HSZ.out; omega
      have hw1 : IntKind.i64.wrap ((j : Int) + 1 - 1) = (j : Int) := by rw [IntKind.wrap_i64]; omega
      have hw3 : IntKind.i64.wrap (j : Int) = (j : Int) := by rw [IntKind.wrap_i64]; omega
      have hds3 : ¬ 9223372036854775807 < y.pl.data.size + sv.size := by omega
      have hj1 : (j : Int) < (j : Int) + 1 := by omega
      have hj2 : (j : Int) < (K.length : Int) := by omega
      obtain ⟨y2, hy2⟩ : ∃ y2, Ow.mk { y.pl with data := y.pl.data ++ sv } y.kv = y2 := ⟨_, rfl⟩
      have hbd : Below W.heap.size W W.drew := (Below.refl _ W).drew
      have stD := st.below hbd
      have T1 := stD.own.upd (x' := y2) (u := .string (y.pl.data ++ sv)) hy (show 2 < 6 by omega) (by rw [← hy2]; rfl) (by rw [← hy2]; exact stD.own.kids q y hy)
      have N1 := OB.set (v := .slice (some ⟨g, 0, none⟩) os.length cv) (x' := y2) (B := W.drew.heap.size) hy (fun k e => .inl (by rw [← hy2] at e; exact e))
      have hp1 : (os.set q y2).map Ow.pl = md (os.map Ow.pl) q (fun z => { z with data := z.data ++ sv }) := setO_pl hy (by rw [← hy2])
      have hpr1 := stD.pr.law (va' := .slice (some ⟨g, 0, none⟩) os.length cv) (os' := os.set q y2) T1.1 T1.2 N1
      have HLS : Hid (LS w1 D v ns _ os (os.set q y2) (i : Int) sv c 0 (W.drew.setCell ⟨g, q * 6 + 2, none⟩ (.string (y.pl.data ++ sv)))) := Lib.hid ⟨hpr1, by
        unfold sayQ
        rw [if_neg HNARG.out, if_neg (by rw [HPL.out]; omega), HSI.out, hp1]⟩
      have hob1 := (T1.2.block ob (Array.getElem?_eq_some_iff.1 hob).1 (fun e => hobo (.inl e))).trans hob
      have x53 : (W.drew.setCell ⟨g, q * 6 + 2, none⟩ (.string (y.pl.data ++ sv))).cell? ⟨ob, 5, none⟩ = some (.string sv) := by rw [cell_of_row _ _ _ _ _ _ hob1, ← HSV.out]; rfl
      have dz : ((0 : Int) != 0) = false := by decide
      clear st hob hk hl2 hkd hda hgv hobw hobd hobo hsz hsv hin hse' hx hx' hK hpk e0 hA0 hc1 hq hq1 hq2 hlj hcq hky hsi hy hy' hy2 stD T1 N1 hp1 hpr1 hob1 hbd hds hr0
      unfold frm277
      rw [e5, e6, e8, e10, e11, e12, e65]
      clear e5 e6 e8 e10 e11 e12 e65
      conv => arg 2; whnf
      go_wp2_with fail
      refine KA0.out.mono ?_
      rintro e wx ⟨rfl, rfl⟩
      go_wp2_with fail
      refine KA0.out.mono ?_
      rintro e wx ⟨rfl, rfl⟩
      go_wp2_with fail
      go_region_law (fail)
      all_goals
        have KS2 := Lib.hid (KS.out _ HLS.out.pr.doc)
        go_wp2_with fail
        refine KS2.out.mono ?_
        rintro e W4 ⟨ns', z', hR, rfl, hA⟩
        obtain ⟨hzz, v', hst'⟩ := say_fin HST.out hm HSZ.out HLS.out hR hA
        subst hzz
        have HST' := Lib.hid hst'
        clear hR hA hst'
        go_wp2
        exact ⟨⟨rfl, rfl, rfl, rfl, v', ns', _, HST'.out⟩, rfl⟩
    · have d33 : (ky == 3) = false := by rw [beq_eq_false_iff_ne]; exact h3
      have HSI : Hid (sayI (os.map Ow.pl) (i : Int) c = none) := Lib.hid (hsi false d33)
      have HX : Hid (txQ sv = txQ sv) := Lib.hid rfl
      have KAD := ladd_any ⟨3, ⟨#[]⟩, sv, 0, [], 0⟩ W st.own st.bw.size (by omega)
      replace KAD := Lib.hid KAD
      have HOBL := Lib.hid (Array.getElem?_eq_some_iff.1 hob).1
      clear st hob hk hl2 hkd hda hgv hobw hobd hobo hsz hsv hin hse' hx hx' hK hpk e0 hA0 hc1 hq hq1 hq2 hlj hcq hky hsi h3 hy hy' hr0
      unfold frm277
      rw [e5, e6, e8, e10, e11, e12, e65]
      clear e5 e6 e8 e10 e11 e12 e65
      conv => arg 2; whnf
      go_wp2_with fail
      refine KA0.out.mono ?_
      rintro e wx ⟨rfl, rfl⟩
      go_wp2_with fail
      refine KA0.out.mono ?_
      rintro e wx ⟨rfl, rfl⟩
      go_wp2_with fail
      refine KAD.out.mono ?_
      rintro e W2 ⟨va1, os1, rfl, hp1, ho1, hf1, hn1⟩
      replace hp1 : os1.map Ow.pl = os.map Ow.pl ++ [txQ sv] := hp1
      have hpr1 := HST.out.pr.law ho1 hf1 hn1
      have hln1 : os1.length = os.length + 1 := by
        have := congrArg List.length hp1
        rw [List.length_append, List.length_map, List.length_map] at this
        exact this
      have hob1 := (hf1.block ob HOBL.out (fun e => HOBO.out (.inl e))).trans HOB.out
      have hno1 : ¬ OB va1 os1 ob := fun e => by
        rcases hn1 ob e with e | e
        · exact HOBO.out e
        · have := HOBL.out; omega
      have htr1 : Tr (os1.map Ow.pl) := by
        rw [hp1]
        refine tr_push HST.out.tr (fun j y hy => ?_) (by simp)
        match j, hy with
        | 0, hy => simp at hy; subst hy; exact ⟨rfl, rfl, (show (1 : Int) ≤ 3 by omega), .inl rfl⟩
        | j + 1, hy => simp at hy
      have KL := Lib.hid (lput_any (i : Int) (os.length : Int) c W2 ho1 htr1 hpr1.bw.size (by omega))
      have HPR1 := Lib.hid hpr1
      have HP1 := Lib.hid hp1
      have HOB1 := Lib.hid hob1
      have HNO1 := Lib.hid hno1
      have HF1 := Lib.hid hf1
      obtain ⟨A1, cv1, hv1, _⟩ := ho1.sl
      rw [hln1] at hv1
      subst hv1
      have hwr : IntKind.i64.wrap ((os.length : Int) + 1 - 1) = (os.length : Int) := by rw [IntKind.wrap_i64]; omega
      have hwr2 : ((os.length : Int) + 1 - 1) = (os.length : Int) := by omega
      clear hp1 ho1 hf1 hn1 hpr1 hob1 htr1 hno1 hln1 KAD c4 cj cy0
      go_wp2_with fail
      refine KL.out.mono ?_
      rintro e W3 ⟨os', rfl, hp, ho, hf, hn⟩
      have hpr3 := HPR1.out.law ho hf hn
      have hob3 := (hf.block ob (Array.getElem?_eq_some_iff.1 HOB1.out).1 (fun e => HNO1.out (.inl e))).trans HOB1.out
      have x53 : W3.cell? ⟨ob, 5, none⟩ = some (.string sv) := by rw [cell_of_row _ _ _ _ _ _ hob3, ← HSV.out]; rfl
      obtain ⟨z, hz⟩ : ∃ z, putEQ (os1.map Ow.pl) (i : Int) (os.length : Int) c = z := ⟨_, rfl⟩
      have HLS : Hid (LS w1 D v ns _ os os' (i : Int) sv c z W3) := Lib.hid ⟨hpr3, by
        unfold sayQ
        rw [if_neg HNARG.out, if_neg (by rw [HPL.out]; omega), HSI.out, hp, ← hz, HP1.out, List.length_map]⟩
      rw [hz]
      have dz : (z != z) = false := by simp
      clear hp ho hf hn hpr3 hob3 hz KL x5
      have KS2 := Lib.hid (KS.out _ HLS.out.pr.doc)
      go_wp2_with fail
      refine KS2.out.mono ?_
      rintro e W4 ⟨ns', z', hR, rfl, hA⟩
      obtain ⟨hzz, v', hst'⟩ := say_fin HST.out hm HSZ.out HLS.out hR hA
      subst hzz
      have HST' := Lib.hid hst'
      clear hR hA hst'
      go_wp2
      exact ⟨⟨rfl, rfl, rfl, rfl, v', ns', _, HST'.out⟩, rfl⟩
end Go.Proofs.Ytodlcfhkiilpgaa
namespace Go.Proofs.Ytodlcfhkiilpgaa
open Go.RowKit Go.Shelf Go.Lib

theorem i64_and_powL (m : Nat) (n : Int) (p : Int) (hm : m ≤ 62) (h : (BitVec.ofInt 64 p).toNat = 2 ^ m - 1) : bits .and .i64 n p = n % (2 ^ m : Nat) := by
  have key : (BitVec.ofInt 64 n &&& BitVec.ofInt 64 p).toNat = (n % ((2 ^ 64 : Nat) : Int)).toNat % 2 ^ m := by
    rw [BitVec.toNat_and, BitVec.toNat_ofInt, h, Nat.and_two_pow_sub_one_eq_mod]
  show IntKind.i64.wrap ((BitVec.ofInt 64 n &&& BitVec.ofInt 64 p).toNat : Nat) = n % (2 ^ m : Nat)
  rw [key, IntKind.wrap_i64]
  have h2 : 2 ^ m ≤ 2 ^ 62 := Nat.pow_le_pow_right (by omega) hm
  have h3 : (2 ^ 64 : Nat) = 2 ^ m * 2 ^ (64 - m) := by rw [← Nat.pow_add]; congr 1; omega
  have h4 : ((n % ((2 ^ 64 : Nat) : Int)).toNat % 2 ^ m : Nat) = n % ((2 ^ m : Nat) : Int) := by
    rw [Int.natCast_emod, Int.toNat_of_nonneg (Int.emod_nonneg _ (by decide)), h3, Int.natCast_mul, Int.emod_emod_of_dvd _ (Int.dvd_mul_right _ _)]
  have h5 : (0 : Int) ≤ n % ((2 ^ m : Nat) : Int) := Int.emod_nonneg _ (by have := Nat.two_pow_pos m; omega)
  have h6 : n % ((2 ^ m : Nat) : Int) < ((2 ^ m : Nat) : Int) := Int.emod_lt_of_pos _ (by have := Nat.two_pow_pos m; omega)
  omega
theorem and3L (n : Int) : bits .and .i64 n 3 = n % 4 := i64_and_powL 2 n 3 (by decide) (by decide)
theorem and65L (n : Int) : bits .and .i64 n 65535 = n % 65536 := i64_and_powL 16 n 65535 (by decide) (by decide)
/-- the node that is added -/
def ndOf (kind : Int) (name data : ByteArray) (kv : Value) : Nd := ⟨kind, 0, name, data, none, [], 0, ⟨#[]⟩, ⟨#[]⟩, 3, kv, [], 4⟩
/-- the tree's Add, whatever the node -/
theorem add_both {base D : Nat} {v : Value} {ns : List Nd} {W : World} (kind : Int) (name data : ByteArray) (kv : Value) (h : DocM base D v false ns W) (hb : base ≤ W.heap.size) (hl : ns.length ≤ 1000) :
    Calls Try.prog 13 #[.pointer (some ⟨D, 0, none⟩), .agg #[.int .i64 kind, .int .i64 0, .string name, .string data, .slice none 0 0, .string ⟨#[]⟩, .string ⟨#[]⟩, .int .i64 3, kv, .int .i64 4]] W fun e W' => e = .returned (.int .i64 ns.length) ∧
      ∃ ns', ns'.map Nd.pl = ns.map Nd.pl ++ newQ ns.length ⟨kind, name, data, 0, [], 0⟩ ∧ ns'.map Nd.rst = ns.map Nd.rst ++ (newQ ns.length ⟨kind, name, data, 0, [], 0⟩).map (fun _ => rst0) ∧ Adds base D v false ns ns' W W' := by
  have e1 : tplB (ndOf kind name data kv) = tplQ ⟨kind, name, data, 0, [], 0⟩ := by
    unfold tplB tplQ ndOf
    simp
  cases ht : tplB (ndOf kind name data kv) with
  | false =>
    have hn : newQ ns.length ⟨kind, name, data, 0, [], 0⟩ = [⟨kind, name, data, -1, [], -1⟩] := by unfold newQ; rw [← e1, ht]; rfl
    refine (add_plain (ndOf kind name data kv) h hb ht (by omega) (.inl rfl) (fun _ => rfl) (Nat.zero_le _)).mono ?_
    rintro e W' ⟨rfl, A, c, ha⟩
    exact ⟨rfl, _, by rw [List.map_append, hn]; rfl, by rw [List.map_append, hn]; rfl, ha⟩
  | true =>
    have hn : newQ ns.length ⟨kind, name, data, 0, [], 0⟩ = [⟨kind, name, data, -1, [], (ns.length : Int) + 1⟩, ⟨1, ⟨#[]⟩, ⟨#[]⟩, -1, [], -1⟩] := by unfold newQ; rw [← e1, ht]; rfl
    refine (add_tpl (ndOf kind name data kv) h hb ht (by omega) (.inl rfl) (fun _ => rfl) (Nat.zero_le _)).mono ?_
    rintro e W' ⟨rfl, A, c, ha⟩
    exact ⟨rfl, _, by rw [List.map_append, hn]; rfl, by rw [List.map_append, hn]; rfl, ha⟩
theorem newQ_len (n : Nat) (x : Pl) : (newQ n x).length ≤ 2 := by
  unfold newQ
  split <;> simp
theorem newQ_dat (n : Nat) (x : Pl) {B : Nat} (h : x.data.size ≤ B) : ∀ y ∈ newQ n x, y.data.size ≤ B := by
  intro y hy
  unfold newQ at hy
  split at hy
  · simp only [List.mem_cons, List.not_mem_nil, or_false] at hy
    rcases hy with rfl | rfl
    · exact h
    · exact Nat.zero_le _
  · rw [List.mem_singleton] at hy
    subst hy
    exact h
/-- behind both calls -/
theorem add_fin {w1 W W' W'' : World} {D : Nat} {v va va' : Value} {ns ns' : List Nd} {os os' : List Ow} {m : Nat} {x : Pl} (st : St w1 D v ns va os m W) (hk : 2 ≤ x.kind) (hx : x.data.size ≤ 50)
    (h1 : ns'.map Nd.pl = ns.map Nd.pl ++ newQ ns.length x) (h2 : ns'.map Nd.rst = ns.map Nd.rst ++ (newQ ns.length x).map (fun _ => rst0)) (v' : Value) (hp : Pr w1 D v' ns' va os W')
    (h3 : os'.map Ow.pl = os.map Ow.pl ++ newQ os.length x) (ho : OwM w1.heap.size va' os' W'') (hf : Frm (fun k => va.ownBlock = some k) W' W'') (hn : ∀ k, OB va' os' k → OB va os k ∨ W'.heap.size ≤ k) : St w1 D v' ns' va' os' (m + 1) W'' := by
  have hle := st.len
  have hln := congrArg List.length h3
  have h9 := newQ_len os.length x
  rw [List.length_append, List.length_map, List.length_map] at hln
  have hpos := st.pos
  refine (hp.law ho hf hn).st (by rw [h1, h3, st.eq, st.len2]) (by
    rw [h3]
    have := newQ_tr st.tr (x := x) (by omega) (fun e => by omega)
    rw [List.length_map] at this
    exact this) (by omega) (by omega) (by
    rw [h3]
    intro y hy
    rcases List.mem_append.1 hy with hy | hy
    · have := st.dat y hy; omega
    · have := newQ_dat os.length x hx y hy; omega) (by
    rw [h2]
    intro r hr
    rcases List.mem_append.1 hr with hr | hr
    · exact st.rst r hr
    · obtain ⟨_, _, e⟩ := List.mem_map.1 hr
      exact e.symm)
set_option maxRecDepth 100000 in
set_option maxHeartbeats 4000000 in
theorem sw_0 (Q : Exit → Act → World → Prop) (w1 W : World) (D : Nat) (v va : Value) (ns : List Nd) (os : List Ow) (m : Nat) (F : Nat → Value) (ob : Nat) (o : OpD) (a b c : Int) (h : HS w1 D v ns va os m F ob o a b c W) (hk : o.k = 0)
    (hQ : ∀ t W', PSw w1 D m F t W' → Q .normal ⟨t, []⟩ W') : Code.wp Try.prog plS Q ⟨frm277 F, []⟩ W := by
  obtain ⟨st, e5, e6, e8, e10, e11, e12, e65, hob, hobw, hobd, hobo, ha, hb, hc, hsz, hm⟩ := h
  rw [hk] at e65
  have hl2 := st.len2
  have hle := st.len
  obtain ⟨Av, cv, hv, _, _, hgv⟩ := st.own.sl
  subst hv
  have x4 : W.cell? ⟨ob, 4, none⟩ = some (.int .i64 o.n) := by rw [cell_of_row _ _ _ _ _ _ hob]; rfl
  have x5 : W.cell? ⟨ob, 5, none⟩ = some (.string o.s) := by rw [cell_of_row _ _ _ _ _ _ hob]; rfl
  have HQ := Lib.hid hQ
  have HST := Lib.hid st
  have HOB := Lib.hid hob
  have HSZ := Lib.hid hsz
  have hobl := (Array.getElem?_eq_some_iff.1 hob).1
  obtain ⟨sv, hsv⟩ : ∃ sv, o.s = sv := ⟨_, rfl⟩
  rw [hsv] at x5 HSZ
  have x5' : ∀ o1 o2 o3 : Obj, (((W.alloc o1).alloc o2).alloc o3).cell? ⟨ob, 5, none⟩ = some (.string sv) := fun o1 o2 o3 => ((((Below.refl W.heap.size W).alloc (Nat.le_refl _) o1).alloc (by rw [World.size_alloc]; omega) o2).alloc (by rw [World.size_alloc, World.size_alloc]; omega) o3).cell (p := ⟨ob, 5, none⟩) hobl |>.trans x5
  have FB := Lib.hid (fun o1 o2 o3 : Obj => show Below W.heap.size W (((W.alloc o1).alloc o2).alloc o3) from (((Below.refl W.heap.size W).alloc (Nat.le_refl _) o1).alloc (by rw [World.size_alloc]; omega) o2).alloc (by rw [World.size_alloc, World.size_alloc]; omega) o3)
  have KA := Lib.hid (fun (kind : Int) (name data : ByteArray) (kv : Value) (o1 o2 o3 : Obj) => show Calls Try.prog 13 #[.pointer (some ⟨D, 0, none⟩), .agg #[.int .i64 kind, .int .i64 0, .string name, .string data, .slice none 0 0, .string ⟨#[]⟩, .string ⟨#[]⟩, .int .i64 3, kv, .int .i64 4]] (((W.alloc o1).alloc o2).alloc o3) (fun e W' => e = .returned (.int .i64 os.length) ∧
      ∃ ns' v', ns'.map Nd.pl = ns.map Nd.pl ++ newQ ns.length ⟨kind, name, data, 0, [], 0⟩ ∧ ns'.map Nd.rst = ns.map Nd.rst ++ (newQ ns.length ⟨kind, name, data, 0, [], 0⟩).map (fun _ => rst0) ∧ Pr w1 D v' ns' (.slice Av os.length cv) os W' ∧ W'.heap[W.heap.size]? = some o1) from by
    have stW := st.below (FB.out o1 o2 o3)
    refine (add_both kind name data kv stW.doc stW.bw.size (by omega)).mono ?_
    rintro e W4 ⟨rfl, ns', h1, h2, hA⟩
    obtain ⟨v', hp⟩ := stW.pr.adds hA
    refine ⟨by rw [hl2], ns', v', h1, h2, hp, ?_⟩
    obtain ⟨_, _, hf, _⟩ := hA
    refine (hf.block W.heap.size (by simp; omega) (fun e => by have := (st.doc.in_ _ e).2; omega)).trans ?_
    rw [Below.heap_alloc _ _ _ (by simp; omega), Below.heap_alloc _ _ _ (by simp)]
    exact heap_alloc_new W o1)
  have n0 : 0 ≤ o.n % 4 := by omega
  have n1 : o.n % 4 < 4 := by omega
  have hbi : bits BinOp.and IntKind.i64 o.n 3 = o.n % 4 := and3L o.n
  obtain ⟨r, hr⟩ : ∃ r, o.n % 4 = r := ⟨_, rfl⟩
  rw [hr] at hbi n0 n1
  clear hQ st hob hk hl2 hgv hobw hobd hobo hsz hsv hr
  by_cases h0 : r = 0
  · subst h0
    unfold frm277
    rw [e5, e6, e8, e10, e11, e12, e65]
    clear e5 e6 e8 e10 e11 e12 e65
    conv => arg 2; whnf
    go_wp2_with fail
    refine (KA.out 2 sv ⟨#[]⟩ _ _ _ _).mono ?_
    rintro e W4 ⟨rfl, ns', v', h1, h2, hp, gX⟩
    have q0 : W4.cell? ⟨W.heap.size, 0, none⟩ = some (.int .i64 2) := by rw [cell_of_row _ _ _ _ _ _ gX]; rfl
    have q1 : W4.cell? ⟨W.heap.size, 1, none⟩ = some (.string sv) := by rw [cell_of_row _ _ _ _ _ _ gX]; rfl
    have q2 : W4.cell? ⟨W.heap.size, 2, none⟩ = some (.string ⟨#[]⟩) := by rw [cell_of_row _ _ _ _ _ _ gX]; rfl
    have q3 : W4.cell? ⟨W.heap.size, 3, none⟩ = some (.int .i64 0) := by rw [cell_of_row _ _ _ _ _ _ gX]; rfl
    have q4 : W4.cell? ⟨W.heap.size, 4, none⟩ = some (.slice none 0 0) := by rw [cell_of_row _ _ _ _ _ _ gX]; rfl
    have q5 : W4.cell? ⟨W.heap.size, 5, none⟩ = some (.int .i64 0) := by rw [cell_of_row _ _ _ _ _ _ gX]; rfl
    have KL := Lib.hid (ladd_any ⟨2, sv, ⟨#[]⟩, 0, [], 0⟩ W4 hp.own hp.bw.size (by omega))
    have dz : ((os.length : Int) != (os.length : Int)) = false := by simp
    have HH1 := Lib.hid h1
    have HH2 := Lib.hid h2
    have HP := Lib.hid hp
    clear h1 h2 hp gX x5'
    go_wp2_with fail
    refine KL.out.mono ?_
    rintro e W5 ⟨va', os', rfl, h3, ho, hf, hn⟩
    have HFIN := Lib.hid (add_fin (x := ⟨2, sv, ⟨#[]⟩, 0, [], 0⟩) HST.out (show (2 : Int) ≤ 2 by omega) (by first | exact HSZ.out | exact Nat.zero_le _) HH1.out HH2.out v' HP.out h3 ho hf hn)
    clear h3 ho hf hn KL
    go_wp2
    exact HQ.out _ _ ⟨rfl, rfl, rfl, rfl, v', ns', os', HFIN.out⟩
  · by_cases h1 : r = 1
    · subst h1
      clear h0
      unfold frm277
      rw [e5, e6, e8, e10, e11, e12, e65]
      clear e5 e6 e8 e10 e11 e12 e65
      conv => arg 2; whnf
      go_wp2_with fail
      refine (KA.out 3 ⟨#[]⟩ sv _ _ _ _).mono ?_
      rintro e W4 ⟨rfl, ns', v', h1, h2, hp, gX⟩
      have q0 : W4.cell? ⟨W.heap.size, 0, none⟩ = some (.int .i64 3) := by rw [cell_of_row _ _ _ _ _ _ gX]; rfl
      have q1 : W4.cell? ⟨W.heap.size, 1, none⟩ = some (.string ⟨#[]⟩) := by rw [cell_of_row _ _ _ _ _ _ gX]; rfl
      have q2 : W4.cell? ⟨W.heap.size, 2, none⟩ = some (.string sv) := by rw [cell_of_row _ _ _ _ _ _ gX]; rfl
      have q3 : W4.cell? ⟨W.heap.size, 3, none⟩ = some (.int .i64 0) := by rw [cell_of_row _ _ _ _ _ _ gX]; rfl
      have q4 : W4.cell? ⟨W.heap.size, 4, none⟩ = some (.slice none 0 0) := by rw [cell_of_row _ _ _ _ _ _ gX]; rfl
      have q5 : W4.cell? ⟨W.heap.size, 5, none⟩ = some (.int .i64 0) := by rw [cell_of_row _ _ _ _ _ _ gX]; rfl
      have KL := Lib.hid (ladd_any ⟨3, ⟨#[]⟩, sv, 0, [], 0⟩ W4 hp.own hp.bw.size (by omega))
      have dz : ((os.length : Int) != (os.length : Int)) = false := by simp
      have HH1 := Lib.hid h1
      have HH2 := Lib.hid h2
      have HP := Lib.hid hp
      clear h1 h2 hp gX x5'
      go_wp2_with fail
      refine KL.out.mono ?_
      rintro e W5 ⟨va', os', rfl, h3, ho, hf, hn⟩
      have HFIN := Lib.hid (add_fin (x := ⟨3, ⟨#[]⟩, sv, 0, [], 0⟩) HST.out (show (2 : Int) ≤ 3 by omega) (by first | exact HSZ.out | exact Nat.zero_le _) HH1.out HH2.out v' HP.out h3 ho hf hn)
      clear h3 ho hf hn KL
      go_wp2
      exact HQ.out _ _ ⟨rfl, rfl, rfl, rfl, v', ns', os', HFIN.out⟩
    · by_cases h2 : r = 2
      · subst h2
        clear h0 h1
        unfold frm277
        rw [e5, e6, e8, e10, e11, e12, e65]
        clear e5 e6 e8 e10 e11 e12 e65
        conv => arg 2; whnf
        go_wp2_with fail
        refine (KA.out 4 ⟨#[]⟩ sv _ _ _ _).mono ?_
        rintro e W4 ⟨rfl, ns', v', h1, h2, hp, gX⟩
        have q0 : W4.cell? ⟨W.heap.size, 0, none⟩ = some (.int .i64 4) := by rw [cell_of_row _ _ _ _ _ _ gX]; rfl
        have q1 : W4.cell? ⟨W.heap.size, 1, none⟩ = some (.string ⟨#[]⟩) := by rw [cell_of_row _ _ _ _ _ _ gX]; rfl
        have q2 : W4.cell? ⟨W.heap.size, 2, none⟩ = some (.string sv) := by rw [cell_of_row _ _ _ _ _ _ gX]; rfl
        have q3 : W4.cell? ⟨W.heap.size, 3, none⟩ = some (.int .i64 0) := by rw [cell_of_row _ _ _ _ _ _ gX]; rfl
        have q4 : W4.cell? ⟨W.heap.size, 4, none⟩ = some (.slice none 0 0) := by rw [cell_of_row _ _ _ _ _ _ gX]; rfl
        have q5 : W4.cell? ⟨W.heap.size, 5, none⟩ = some (.int .i64 0) := by rw [cell_of_row _ _ _ _ _ _ gX]; rfl
        have KL := Lib.hid (ladd_any ⟨4, ⟨#[]⟩, sv, 0, [], 0⟩ W4 hp.own hp.bw.size (by omega))
        have dz : ((os.length : Int) != (os.length : Int)) = false := by simp
        have HH1 := Lib.hid h1
        have HH2 := Lib.hid h2
        have HP := Lib.hid hp
        clear h1 h2 hp gX x5'
        go_wp2_with fail
        refine KL.out.mono ?_
        rintro e W5 ⟨va', os', rfl, h3, ho, hf, hn⟩
        have HFIN := Lib.hid (add_fin (x := ⟨4, ⟨#[]⟩, sv, 0, [], 0⟩) HST.out (show (2 : Int) ≤ 4 by omega) (by first | exact HSZ.out | exact Nat.zero_le _) HH1.out HH2.out v' HP.out h3 ho hf hn)
        clear h3 ho hf hn KL
        go_wp2
        exact HQ.out _ _ ⟨rfl, rfl, rfl, rfl, v', ns', os', HFIN.out⟩
      · obtain rfl : r = 3 := by omega
        clear h0 h1 h2
        unfold frm277
        rw [e5, e6, e8, e10, e11, e12, e65]
        clear e5 e6 e8 e10 e11 e12 e65
        conv => arg 2; whnf
        go_wp2_with fail
        refine (KA.out 5 sv ⟨#[]⟩ _ _ _ _).mono ?_
        rintro e W4 ⟨rfl, ns', v', h1, h2, hp, gX⟩
        have q0 : W4.cell? ⟨W.heap.size, 0, none⟩ = some (.int .i64 5) := by rw [cell_of_row _ _ _ _ _ _ gX]; rfl
        have q1 : W4.cell? ⟨W.heap.size, 1, none⟩ = some (.string sv) := by rw [cell_of_row _ _ _ _ _ _ gX]; rfl
        have q2 : W4.cell? ⟨W.heap.size, 2, none⟩ = some (.string ⟨#[]⟩) := by rw [cell_of_row _ _ _ _ _ _ gX]; rfl
        have q3 : W4.cell? ⟨W.heap.size, 3, none⟩ = some (.int .i64 0) := by rw [cell_of_row _ _ _ _ _ _ gX]; rfl
        have q4 : W4.cell? ⟨W.heap.size, 4, none⟩ = some (.slice none 0 0) := by rw [cell_of_row _ _ _ _ _ _ gX]; rfl
        have q5 : W4.cell? ⟨W.heap.size, 5, none⟩ = some (.int .i64 0) := by rw [cell_of_row _ _ _ _ _ _ gX]; rfl
        have KL := Lib.hid (ladd_any ⟨5, sv, ⟨#[]⟩, 0, [], 0⟩ W4 hp.own hp.bw.size (by omega))
        have dz : ((os.length : Int) != (os.length : Int)) = false := by simp
        have HH1 := Lib.hid h1
        have HH2 := Lib.hid h2
        have HP := Lib.hid hp
        clear h1 h2 hp gX x5'
        go_wp2_with fail
        refine KL.out.mono ?_
        rintro e W5 ⟨va', os', rfl, h3, ho, hf, hn⟩
        have HFIN := Lib.hid (add_fin (x := ⟨5, sv, ⟨#[]⟩, 0, [], 0⟩) HST.out (show (2 : Int) ≤ 5 by omega) (by first | exact HSZ.out | exact Nat.zero_le _) HH1.out HH2.out v' HP.out h3 ho hf hn)
        clear h3 ho hf hn KL
        go_wp2
        exact HQ.out _ _ ⟨rfl, rfl, rfl, rfl, v', ns', os', HFIN.out⟩
end Go.Proofs.Ytodlcfhkiilpgaa
