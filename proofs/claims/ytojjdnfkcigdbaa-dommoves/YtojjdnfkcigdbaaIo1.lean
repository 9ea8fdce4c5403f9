/- A step of the laws of layer 8: Say, with nothing to say, or nowhere. -/
import Derived.Test.YtojjdnfkcigdbaaJoin19
namespace Go.Proofs.Ytojjdnfkcigdbaa
open Go.RowKit Go.Shelf Go.Lib

set_option maxRecDepth 100000 in
set_option maxHeartbeats 8000000 in
theorem sw_3a (Q : Exit → Act → World → Prop) (w1 W : World) (D : Nat) (v va : Value) (ns : List Nd) (os : List Ow) (m : Nat) (F : Nat → Value) (ob : Nat) (o : OpD) (a b c : Int) (h : HS w1 D v ns va os m F ob o a b c W) (hk : o.k = 3) (hin : (os.length : Int) ≤ a)
    (hQ : ∀ t W', PSw w1 D m F t W' → Q .normal ⟨t, []⟩ W') : Code.wp Try.prog plS Q ⟨frm277 F, []⟩ W := by
  obtain ⟨st, e5, e6, e8, e10, e11, e12, e65, hob, hobw, hobd, hobo, ha, hb, hc, hsz, hm⟩ := h
  rw [hk] at e65
  have hl2 := st.len2
  have hle := st.len
  have hkd := st.kids
  have hda := st.data
  obtain ⟨Av, cv, hv, _, _, hgv⟩ := st.own.sl
  subst hv
  obtain ⟨g, rfl, hbg, hgl⟩ := hgv st.pos
  have x5 : W.cell? ⟨ob, 5, none⟩ = some (.string o.s) := by rw [cell_of_row _ _ _ _ _ _ hob]; rfl
  have HQ := Lib.hid hQ
  have HST := Lib.hid st
  have HOB := Lib.hid hob
  have HOBO := Lib.hid hobo
  have HSZ := Lib.hid hsz
  have KS := Lib.hid (fun (W' : World) (h : DocM w1.heap.size D v false ns W') => say_any a o.s c W' h (by omega) (fun x hx => by have := hkd x hx; omega) (fun x hx => by have := hda x hx; omega))
  obtain ⟨sv, hsv⟩ : ∃ sv, o.s = sv := ⟨_, rfl⟩
  rw [hsv] at x5 KS HSZ
  have HSV := Lib.hid hsv
  have d1 : decide ((os.length : Int) ≤ a) = true := decide_eq_true hin
  have dz : ((1 : Int) != 1) = false := by decide
  have HLS : Hid (LS w1 D v ns _ os os a sv c 1 W) := Lib.hid ⟨st.pr, by unfold sayQ; rw [if_pos (.inl (by unfold inQ; rw [decide_eq_false (p := a < ((os.map Ow.pl).length : Int)) (by rw [List.length_map]; omega)]; simp))]⟩
  clear hQ st hob hk hl2 hkd hda hgv hobw hobd hobo hsz hsv hin
  unfold frm277
  rw [e5, e6, e8, e10, e11, e12, e65]
  clear e5 e6 e8 e10 e11 e12 e65
  conv => arg 2; whnf
  have KS2 := Lib.hid (KS.out _ HLS.out.pr.doc)
  go_wp2_with fail
  refine KS2.out.mono ?_
  rintro e W4 ⟨ns', z', hR, rfl, hA⟩
  obtain ⟨hzz, v', hst'⟩ := say_fin HST.out hm HSZ.out HLS.out hR hA
  subst hzz
  have HST' := Lib.hid hst'
  clear hR hA hst'
  go_wp2
  exact HQ.out _ _ ⟨rfl, rfl, rfl, rfl, v', ns', _, HST'.out⟩
set_option maxRecDepth 100000 in
set_option maxHeartbeats 8000000 in
theorem sw_3b (Q : Exit → Act → World → Prop) (w1 W : World) (D : Nat) (v va : Value) (ns : List Nd) (os : List Ow) (m : Nat) (F : Nat → Value) (ob : Nat) (o : OpD) (a b c : Int) (h : HS w1 D v ns va os m F ob o a b c W) (hk : o.k = 3) (hin : a < os.length) (hse' : o.s.toList = [])
    (hQ : ∀ t W', PSw w1 D m F t W' → Q .normal ⟨t, []⟩ W') : Code.wp Try.prog plS Q ⟨frm277 F, []⟩ W := by
  obtain ⟨st, e5, e6, e8, e10, e11, e12, e65, hob, hobw, hobd, hobo, ha, hb, hc, hsz, hm⟩ := h
  rw [hk] at e65
  have hl2 := st.len2
  have hle := st.len
  have hkd := st.kids
  have hda := st.data
  obtain ⟨Av, cv, hv, _, _, hgv⟩ := st.own.sl
  subst hv
  obtain ⟨g, rfl, hbg, hgl⟩ := hgv st.pos
  have x5 : W.cell? ⟨ob, 5, none⟩ = some (.string o.s) := by rw [cell_of_row _ _ _ _ _ _ hob]; rfl
  have HQ := Lib.hid hQ
  have HST := Lib.hid st
  have HOB := Lib.hid hob
  have HOBO := Lib.hid hobo
  have HSZ := Lib.hid hsz
  have KS := Lib.hid (fun (W' : World) (h : DocM w1.heap.size D v false ns W') => say_any a o.s c W' h (by omega) (fun x hx => by have := hkd x hx; omega) (fun x hx => by have := hda x hx; omega))
  obtain ⟨sv, hsv⟩ : ∃ sv, o.s = sv := ⟨_, rfl⟩
  rw [hsv] at x5 KS HSZ
  have HSV := Lib.hid hsv
  have hse'' := hse'
  rw [hsv] at hse''
  have hse : sv.toList.isEmpty = true := List.isEmpty_iff.2 hse''
  obtain ⟨i, rfl⟩ : ∃ i : Nat, a = i := ⟨a.toNat, by omega⟩
  have d1 : decide ((os.length : Int) ≤ (i : Int)) = false := decide_eq_false (by omega)
  have hnil : ¬ os.length ≤ i := by omega
  have dz : ((1 : Int) != 1) = false := by decide
  have HLS : Hid (LS w1 D v ns _ os os (i : Int) sv c 1 W) := Lib.hid ⟨st.pr, by unfold sayQ; rw [if_pos (.inr hse'')]⟩
  clear hQ st hob hk hl2 hkd hda hgv hobw hobd hobo hsz hsv hin hse'
  unfold frm277
  rw [e5, e6, e8, e10, e11, e12, e65]
  clear e5 e6 e8 e10 e11 e12 e65
  conv => arg 2; whnf
  have KS2 := Lib.hid (KS.out _ HLS.out.pr.doc)
  go_wp2_with fail
  refine KS2.out.mono ?_
  rintro e W4 ⟨ns', z', hR, rfl, hA⟩
  obtain ⟨hzz, v', hst'⟩ := say_fin HST.out hm HSZ.out HLS.out hR hA
  subst hzz
  have HST' := Lib.hid hst'
  clear hR hA hst'
  go_wp2
  exact HQ.out _ _ ⟨rfl, rfl, rfl, rfl, v', ns', _, HST'.out⟩
set_option maxRecDepth 100000 in
set_option maxHeartbeats 8000000 in
theorem sw_3c (Q : Exit → Act → World → Prop) (w1 W : World) (D : Nat) (v va : Value) (ns : List Nd) (os : List Ow) (m : Nat) (F : Nat → Value) (ob : Nat) (o : OpD) (a b c : Int) (h : HS w1 D v ns va os m F ob o a b c W) (hk : o.k = 3) (hin : a < os.length) (hse' : ¬ o.s.toList = []) (hc1 : c ≠ -1) (hq : Lib.idxOf (pAt (os.map Ow.pl) a Pl.kids []) c < 0)
    (hQ : ∀ t W', PSw w1 D m F t W' → Q .normal ⟨t, []⟩ W') : Code.wp Try.prog plS Q ⟨frm277 F, []⟩ W := by
  obtain ⟨st, e5, e6, e8, e10, e11, e12, e65, hob, hobw, hobd, hobo, ha, hb, hc, hsz, hm⟩ := h
  rw [hk] at e65
  have hl2 := st.len2
  have hle := st.len
  have hkd := st.kids
  have hda := st.data
  obtain ⟨Av, cv, hv, _, _, hgv⟩ := st.own.sl
  subst hv
  obtain ⟨g, rfl, hbg, hgl⟩ := hgv st.pos
  have x5 : W.cell? ⟨ob, 5, none⟩ = some (.string o.s) := by rw [cell_of_row _ _ _ _ _ _ hob]; rfl
  have HQ := Lib.hid hQ
  have HST := Lib.hid st
  have HOB := Lib.hid hob
  have HOBO := Lib.hid hobo
  have HSZ := Lib.hid hsz
  have KS := Lib.hid (fun (W' : World) (h : DocM w1.heap.size D v false ns W') => say_any a o.s c W' h (by omega) (fun x hx => by have := hkd x hx; omega) (fun x hx => by have := hda x hx; omega))
  obtain ⟨sv, hsv⟩ : ∃ sv, o.s = sv := ⟨_, rfl⟩
  rw [hsv] at x5 KS HSZ
  have HSV := Lib.hid hsv
  obtain ⟨i, rfl⟩ : ∃ i : Nat, a = i := ⟨a.toNat, by omega⟩
  have d1 : decide ((os.length : Int) ≤ (i : Int)) = false := decide_eq_false (by omega)
  have hil : i < os.length := by omega
  have hnil : ¬ os.length ≤ i := by omega
  rw [hsv] at hse'
  have hse : sv.toList.isEmpty = false := by
    cases h : sv.toList.isEmpty with
    | true => exact absurd (List.isEmpty_iff.1 h) hse'
    | false => rfl
  have hse2 : ¬ sv.toList = [] := hse'
  obtain ⟨x, hx⟩ : ∃ x, os[i]? = some x := ⟨_, List.getElem?_eq_getElem hil⟩
  obtain ⟨A0, c00, e0, hK0le, hK0mx, hA0, hr0⟩ := kid_form st.own hx
  have c4 : W.cell? ⟨g, i * 6 + 4, none⟩ = some (.slice A0 x.pl.kids.length c00) := by
    have := st.own.cell hx (show 4 < 6 by omega)
    simp only [Ow.cs, List.getElem?_cons_succ, List.getElem?_cons_zero, e0] at this
    exact this
  have hx' : (os.map Ow.pl)[i]? = some x.pl := by rw [List.getElem?_map, hx]; rfl
  have hkle : x.pl.kids.length ≤ os.length := by have := st.tr.kids_le hx'; rw [List.length_map] at this; exact this
  have HKK := Lib.hid (fun (j : Nat) (l : Int) (h : x.pl.kids[j]? = some l) => kid_kind st.tr hx h)
  obtain ⟨K, hK⟩ : ∃ K, x.pl.kids = K := ⟨_, rfl⟩
  rw [hK] at c4 hr0 hK0le e0 hkle HKK
  have hpk : pAt (os.map Ow.pl) (i : Int) Pl.kids [] = K := by rw [pAt_some hx', hK]
  have hgI : (i : Int) * 6 = ((i * 6 : Nat) : Int) := by omega
  have HNARG : Hid (¬ (inQ (os.map Ow.pl) (i : Int) = false ∨ sv.toList = [])) := Lib.hid (by rintro (h | h); rw [inQ_of hx'] at h; cases h; exact hse' h)
  have HPK := Lib.hid hpk
  have HR0 := Lib.hid hr0
  rw [hpk] at hq
  have d3 : (c != -1) = true := by rw [bne_iff_ne]; exact hc1
  have KA0 := at_any K c A0 c00 W hr0 (by omega)
  have hq1 : Lib.idxOf K c = -1 := by rcases idx_cases K c with h | ⟨_, h, _⟩ <;> omega
  rw [hq1] at KA0
  replace KA0 := Lib.hid KA0
  have d4 : decide ((-1 : Int) < 0) = true := by decide
  have dz : ((4 : Int) != 4) = false := by decide
  have HLS : Hid (LS w1 D v ns _ os os (i : Int) sv c 4 W) := Lib.hid ⟨st.pr, by unfold sayQ; rw [if_neg HNARG.out, if_pos (by unfold plQ; rw [if_neg hc1, hpk]; omega)]⟩
  clear hQ st hob hk hl2 hkd hda hgv hobw hobd hobo hsz hsv hin hse' hx hx' hK hpk e0 hr0 hA0 hc1 hq hq1
  unfold frm277
  rw [e5, e6, e8, e10, e11, e12, e65]
  clear e5 e6 e8 e10 e11 e12 e65
  conv => arg 2; whnf
  go_wp2_with fail
  refine KA0.out.mono ?_
  rintro e wx ⟨rfl, rfl⟩
  have KS2 := Lib.hid (KS.out _ HLS.out.pr.doc)
  go_wp2_with fail
  refine KS2.out.mono ?_
  rintro e W4 ⟨ns', z', hR, rfl, hA⟩
  obtain ⟨hzz, v', hst'⟩ := say_fin HST.out hm HSZ.out HLS.out hR hA
  subst hzz
  have HST' := Lib.hid hst'
  clear hR hA hst'
  go_wp2
  exact HQ.out _ _ ⟨rfl, rfl, rfl, rfl, v', ns', _, HST'.out⟩
end Go.Proofs.Ytojjdnfkcigdbaa
