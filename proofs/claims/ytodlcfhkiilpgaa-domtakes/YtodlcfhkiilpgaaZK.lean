/- A step of the laws of layer 8: Say, what it wants. A step of the laws of layer 8: Say, with nothing to say, or nowhere. A step of the laws of layer 8: Say, at the end. -/
import Derived.Test.YtodlcfhkiilpgaaZJ
namespace Go.Proofs.Ytodlcfhkiilpgaa
open Go.RowKit Go.Shelf Go.Lib

theorem say_rst {ns ns' : List Nd} {up before z : Int} {s : ByteArray} (hs : SayR ns up s before ns' z) (h : ∀ r ∈ ns.map Nd.rst, r = rst0) : ∀ r ∈ ns'.map Nd.rst, r = rst0 := by
  cases hs with
  | arg _ => exact h
  | miss _ _ _ => exact h
  | grow l _ _ _ _ => rw [setD_rst]; exact h
  | new A c v1 v2 _ _ _ _ =>
    rw [putP_rst, List.map_append]
    intro r hr
    rcases List.mem_append.1 hr with hr | hr
    · exact h r hr
    · simp only [List.map_cons, List.map_nil, List.mem_singleton] at hr
      rw [hr]
      rfl
theorem say_dat {ps : List Pl} {up before : Int} {s : ByteArray} {B : Nat} (h : ∀ x ∈ ps, x.data.size ≤ B) (hs : s.size ≤ 50) : ∀ x ∈ (sayQ ps up s before).1, x.data.size ≤ B + 50 := by
  have h' : ∀ x ∈ ps, x.data.size ≤ B + 50 := fun x hx => by have := h x hx; omega
  unfold sayQ
  split
  · exact h'
  · split
    · exact h'
    · split
      · exact md_dat h' (fun x hx => by have := h x hx; simp only [ByteArray.size_append]; omega)
      · refine put_dat (fun x hx => ?_)
        rcases List.mem_append.1 hx with hx | hx
        · exact h' x hx
        · rw [List.mem_singleton] at hx
          subst hx
          show s.size ≤ _
          omega
theorem sayQ_len (ps : List Pl) (up : Int) (s : ByteArray) (before : Int) : ps.length ≤ (sayQ ps up s before).1.length ∧ (sayQ ps up s before).1.length ≤ ps.length + 1 := by
  unfold sayQ
  split
  · simp
  · split
    · simp
    · split
      · rw [md_len]; omega
      · rw [putQ_len, List.length_append]; simp
/-- the list of the law, when the tree's call comes -/
structure LS (w1 : World) (D : Nat) (v : Value) (ns : List Nd) (va' : Value) (os os' : List Ow) (a : Int) (s : ByteArray) (c z : Int) (W' : World) : Prop where
  pr : Pr w1 D v ns va' os' W'
  eq : (os'.map Ow.pl, z) = sayQ (os.map Ow.pl) a s c
/-- behind the tree's call -/
theorem say_fin {w1 W W' W'' : World} {D : Nat} {v va va' : Value} {ns ns' : List Nd} {os os' : List Ow} {m : Nat} {a c z z' : Int} {s : ByteArray} (st : St w1 D v ns va os m W) (hm : m < 60) (hsz : s.size ≤ 50) (hL : LS w1 D v ns va' os os' a s c z W') (hR : SayR ns a s c ns' z') (hA : Adds w1.heap.size D v false ns ns' W' W'') : z' = z ∧ ∃ v', St w1 D v' ns' va' os' (m + 1) W'' := by
  have hle := st.len
  have hl2 := st.len2
  have h2 := say_pl (by rw [st.eq]; exact st.tr) (by omega) hR
  rw [st.eq, ← hL.eq] at h2
  injection h2 with h2 h3
  obtain ⟨v', hp⟩ := hL.pr.adds hA
  have e1 : os'.map Ow.pl = (sayQ (os.map Ow.pl) a s c).1 := by rw [← hL.eq]
  have hln := sayQ_len (os.map Ow.pl) a s c
  rw [← e1, List.length_map, List.length_map] at hln
  have hpos := st.pos
  exact ⟨h3, v', hp.st (m := m + 1) h2 (by rw [e1]; exact sayQ_tr st.tr _ _ _) (by omega) (by omega) (by
    rw [e1]
    intro x hx
    have := say_dat st.dat hsz x hx
    omega) (say_rst hR st.rst)⟩
/-- the kind of a kid -/
theorem kid_kind {os : List Ow} (ht : Tr (os.map Ow.pl)) {i : Nat} {x : Ow} (hx : os[i]? = some x) {j : Nat} {l : Int} (hl : x.pl.kids[j]? = some l) : ∃ (q : Nat) (y : Ow), l = (q : Int) ∧ os[q]? = some y := by
  have hx' : (os.map Ow.pl)[i]? = some x.pl := by rw [List.getElem?_map, hx]; rfl
  obtain ⟨q, y', e, hy, _⟩ := ht.kup i _ hx' l (List.mem_of_getElem? hl)
  obtain ⟨y, hy, _⟩ := ow_get rfl hy
  exact ⟨q, y, e, hy⟩
/-- behind the switch, and at no other end -/
def NQ (w1 : World) (D : Nat) (m : Nat) (F : Nat → Value) (e : Exit) (a : Act) (w : World) : Prop := match e with
  | .normal => PSw w1 D m F a.tmps w ∧ a.defers = []
  | _ => False
theorem NQ.lift {w1 W : World} {D m : Nat} {F : Nat → Value} {C : Code} {s : Act} {Q : Exit → Act → World → Prop} (h : Code.wp Try.prog C (NQ w1 D m F) s W) (hQ : ∀ t W', PSw w1 D m F t W' → Q .normal ⟨t, []⟩ W') : Code.wp Try.prog C Q s W := by
  refine Code.wp_mono (fun e a w h => ?_) h
  cases e with
  | normal =>
    obtain ⟨h1, h2⟩ := h
    obtain ⟨t, d⟩ := a
    simp only at h2
    subst h2
    exact hQ t w h1
  | _ => exact h.elim
end Go.Proofs.Ytodlcfhkiilpgaa
namespace Go.Proofs.Ytodlcfhkiilpgaa
open Go.RowKit Go.Shelf Go.Lib

set_option maxRecDepth 100000 in
set_option maxHeartbeats 8000000 in
theorem sw_3a (Q : Exit → Act → World → Prop) (w1 W : World) (D : Nat) (v va : Value) (ns : List Nd) (os : List Ow) (m : Nat) (F : Nat → Value) (ob : Nat) (o : OpD) (a b c : Int) (h : HS w1 D v ns va os m F ob o a b c W) (hk : o.k = 3) (hin : (os.length : Int) ≤ a)
    (hQ : ∀ t W', PSw w1 D m F t W' → Q .normal ⟨t, []⟩ W') : Code.wp Try.prog plS Q ⟨frm277 F, []⟩ W := by
  obtain ⟨st, e5, e6, e8, e10, e11, e12, e65, hob, hobw, hobd, hobo, ha, hb, hc, hsz, hm⟩ := h
  rw [hk] at e65
  have hl2 := st.len2
  have hle := st.len
  have hkd := st.kids
  have hda := st.data
  obtain ⟨Av, cv, hv, _, _, hgv⟩ := st.own.sl
  subst hv
  obtain ⟨g, rfl, hbg, hgl⟩ := hgv st.pos
  have x5 : W.cell? ⟨ob, 5, none⟩ = some (.string o.s) := by rw [cell_of_row _ _ _ _ _ _ hob]; rfl
  have HQ := Lib.hid hQ
  have HST := Lib.hid st
  have HOB := Lib.hid hob
  have HOBO := Lib.hid hobo
  have HSZ := Lib.hid hsz
  have KS := Lib.hid (fun (W' : World) (h : DocM w1.heap.size D v false ns W') => say_any a o.s c W' h (by omega) (fun x hx => by have := hkd x hx; omega) (fun x hx => by have := hda x hx; omega))
  obtain ⟨sv, hsv⟩ : ∃ sv, o.s = sv := ⟨_, rfl⟩
  rw [hsv] at x5 KS HSZ
  have HSV := Lib.hid hsv
  have d1 : decide ((os.length : Int) ≤ a) = true := decide_eq_true hin
  have dz : ((1 : Int) != 1) = false := by decide
  have HLS : Hid (LS w1 D v ns _ os os a sv c 1 W) := Lib.hid ⟨st.pr, by unfold sayQ; rw [if_pos (.inl (by unfold inQ; rw [decide_eq_false (p := a < ((os.map Ow.pl).length : Int)) (by rw [List.length_map]; omega)]; simp))]⟩
  clear hQ st hob hk hl2 hkd hda hgv hobw hobd hobo hsz hsv hin
  unfold frm277
  rw [e5, e6, e8, e10, e11, e12, e65]
  clear e5 e6 e8 e10 e11 e12 e65
  conv => arg 2; whnf
  have KS2 := Lib.hid (KS.out _ HLS.out.pr.doc)
  go_wp2_with fail
  refine KS2.out.mono ?_
  rintro e W4 ⟨ns', z', hR, rfl, hA⟩
  obtain ⟨hzz, v', hst'⟩ := say_fin HST.out hm HSZ.out HLS.out hR hA
  subst hzz
  have HST' := Lib.hid hst'
  clear hR hA hst'
  go_wp2
  exact HQ.out _ _ ⟨rfl, rfl, rfl, rfl, v', ns', _, HST'.out⟩
set_option maxRecDepth 100000 in
set_option maxHeartbeats 8000000 in
theorem sw_3b (Q : Exit → Act → World → Prop) (w1 W : World) (D : Nat) (v va : Value) (ns : List Nd) (os : List Ow) (m : Nat) (F : Nat → Value) (ob : Nat) (o : OpD) (a b c : Int) (h : HS w1 D v ns va os m F ob o a b c W) (hk : o.k = 3) (hin : a < os.length) (hse' : o.s.toList = [])
    (hQ : ∀ t W', PSw w1 D m F t W' → Q .normal ⟨t, []⟩ W') : Code.wp Try.prog plS Q ⟨frm277 F, []⟩ W := by
  obtain ⟨st, e5, e6, e8, e10, e11, e12, e65, hob, hobw, hobd, hobo, ha, hb, hc, hsz, hm⟩ := h
  rw [hk] at e65
  have hl2 := st.len2
  have hle := st.len
  have hkd := st.kids
  have hda := st.data
  obtain ⟨Av, cv, hv, _, _, hgv⟩ := st.own.sl
  subst hv
  obtain ⟨g, rfl, hbg, hgl⟩ := hgv st.pos
  have x5 : W.cell? ⟨ob, 5, none⟩ = some (.string o.s) := by rw [cell_of_row _ _ _ _ _ _ hob]; rfl
  have HQ := Lib.hid hQ
  have HST := Lib.hid st
  have HOB := Lib.hid hob
  have HOBO := Lib.hid hobo
  have HSZ := Lib.hid hsz
  have KS := Lib.hid (fun (W' : World) (h : DocM w1.heap.size D v false ns W') => say_any a o.s c W' h (by omega) (fun x hx => by have := hkd x hx; omega) (fun x hx => by have := hda x hx; omega))
  obtain ⟨sv, hsv⟩ : ∃ sv, o.s = sv := ⟨_, rfl⟩
  rw [hsv] at x5 KS HSZ
  have HSV := Lib.hid hsv
  have hse'' := hse'
  rw [hsv] at hse''
  have hse : sv.toList.isEmpty = true := List.isEmpty_iff.2 hse''
  obtain ⟨i, rfl⟩ : ∃ i : Nat, a = i := ⟨a.toNat, by omega⟩
  have d1 : decide ((os.length : Int) ≤ (i : Int)) = false := decide_eq_false (by omega)
  have hnil : ¬ os.length ≤ i := by omega
  have dz : ((1 : Int) != 1) = false := by decide
  have HLS : Hid (LS w1 D v ns _ os os (i : Int) sv c 1 W) := Lib.hid ⟨st.pr, by unfold sayQ; rw [if_pos (.inr hse'')]⟩
  clear hQ st hob hk hl2 hkd hda hgv hobw hobd hobo hsz hsv hin hse'
  unfold frm277
  rw [e5, e6, e8, e10, e11, e12, e65]
  clear e5 e6 e8 e10 e11 e12 e65
  conv => arg 2; whnf
  have KS2 := Lib.hid (KS.out _ HLS.out.pr.doc)
  go_wp2_with fail
  refine KS2.out.mono ?_
  rintro e W4 ⟨ns', z', hR, rfl, hA⟩
  obtain ⟨hzz, v', hst'⟩ := say_fin HST.out hm HSZ.out HLS.out hR hA
  subst hzz
  have HST' := Lib.hid hst'
  clear hR hA hst'
  go_wp2
  exact HQ.out _ _ ⟨rfl, rfl, rfl, rfl, v', ns', _, HST'.out⟩
set_option maxRecDepth 100000 in
set_option maxHeartbeats 8000000 in
theorem sw_3c (Q : Exit → Act → World → Prop) (w1 W : World) (D : Nat) (v va : Value) (ns : List Nd) (os : List Ow) (m : Nat) (F : Nat → Value) (ob : Nat) (o : OpD) (a b c : Int) (h : HS w1 D v ns va os m F ob o a b c W) (hk : o.k = 3) (hin : a < os.length) (hse' : ¬ o.s.toList = []) (hc1 : c ≠ -1) (hq : Lib.idxOf (pAt (os.map Ow.pl) a Pl.kids []) c < 0)
    (hQ : ∀ t W', PSw w1 D m F t W' → Q .normal ⟨t, []⟩ W') : Code.wp Try.prog plS Q ⟨frm277 F, []⟩ W := by
  obtain ⟨st, e5, e6, e8, e10, e11, e12, e65, hob, hobw, hobd, hobo, ha, hb, hc, hsz, hm⟩ := h
  rw [hk] at e65
  have hl2 := st.len2
  have hle := st.len
  have hkd := st.kids
  have hda := st.data
  obtain ⟨Av, cv, hv, _, _, hgv⟩ := st.own.sl
  subst hv
  obtain ⟨g, rfl, hbg, hgl⟩ := hgv st.pos
  have x5 : W.cell? ⟨ob, 5, none⟩ = some (.string o.s) := by rw [cell_of_row _ _ _ _ _ _ hob]; rfl
  have HQ := Lib.hid hQ
  have HST := Lib.hid st
  have HOB := Lib.hid hob
  have HOBO := Lib.hid hobo
  have HSZ := Lib.hid hsz
  have KS := Lib.hid (fun (W' : World) (h : DocM w1.heap.size D v false ns W') => say_any a o.s c W' h (by omega) (fun x hx => by have := hkd x hx; omega) (fun x hx => by have := hda x hx; omega))
  obtain ⟨sv, hsv⟩ : ∃ sv, o.s = sv := ⟨_, rfl⟩
  rw [hsv] at x5 KS HSZ
  have HSV := Lib.hid hsv
  obtain ⟨i, rfl⟩ : ∃ i : Nat, a = i := ⟨a.toNat, by omega⟩
  have d1 : decide ((os.length : Int) ≤ (i : Int)) = false := decide_eq_false (by omega)
  have hil : i < os.length := by omega
  have hnil : ¬ os.length ≤ i := by omega
  rw [hsv] at hse'
  have hse : sv.toList.isEmpty = false := by
    cases h : sv.toList.isEmpty with
    | true => exact absurd (List.isEmpty_iff.1 h) hse'
    | false => rfl
  have hse2 : ¬ sv.toList = [] := hse'
  obtain ⟨x, hx⟩ : ∃ x, os[i]? = some x := ⟨_, List.getElem?_eq_getElem hil⟩
  obtain ⟨A0, c00, e0, hK0le, hK0mx, hA0, hr0⟩ := kid_form st.own hx
  have c4 : W.cell? ⟨g, i * 6 + 4, none⟩ = some (.slice A0 x.pl.kids.length c00) := by
    have := st.own.cell hx (show 4 < 6 by omega)
    simp only [Ow.cs, List.getElem?_cons_succ, List.getElem?_cons_zero, e0] at this
    exact this
  have hx' : (os.map Ow.pl)[i]? = some x.pl := by rw [List.getElem?_map, hx]; rfl
  have hkle : x.pl.kids.length ≤ os.length := by have := st.tr.kids_le hx'; rw [List.length_map] at this; exact this
  have HKK := Lib.hid (fun (j : Nat) (l : Int) (h : x.pl.kids[j]? = some l) => kid_kind st.tr hx h)
  obtain ⟨K, hK⟩ : ∃ K, x.pl.kids = K := ⟨_, rfl⟩
  rw [hK] at c4 hr0 hK0le e0 hkle HKK
  have hpk : pAt (os.map Ow.pl) (i : Int) Pl.kids [] = K := by rw [pAt_some hx', hK]
  have hgI : (i : Int) * 6 = ((i * 6 : Nat) : Int) := by omega
  have HNARG : Hid (¬ (inQ (os.map Ow.pl) (i : Int) = false ∨ sv.toList = [])) := Lib.hid (by rintro (h | h); rw [inQ_of hx'] at h; cases h; exact hse' h)
  have HPK := Lib.hid hpk
  have HR0 := Lib.hid hr0
  rw [hpk] at hq
  have d3 : (c != -1) = true := by rw [bne_iff_ne]; exact hc1
  have KA0 := at_any K c A0 c00 W hr0 (by omega)
  have hq1 : Lib.idxOf K c = -1 := by rcases idx_cases K c with h | ⟨_, h, _⟩ <;> omega
  rw [hq1] at KA0
  replace KA0 := Lib.hid KA0
  have d4 : decide ((-1 : Int) < 0) = true := by decide
  have dz : ((4 : Int) != 4) = false := by decide
  have HLS : Hid (LS w1 D v ns _ os os (i : Int) sv c 4 W) := Lib.hid ⟨st.pr, by unfold sayQ; rw [if_neg HNARG.out, if_pos (by unfold plQ; rw [if_neg hc1, hpk]; omega)]⟩
  clear hQ st hob hk hl2 hkd hda hgv hobw hobd hobo hsz hsv hin hse' hx hx' hK hpk e0 hr0 hA0 hc1 hq hq1
  unfold frm277
  rw [e5, e6, e8, e10, e11, e12, e65]
  clear e5 e6 e8 e10 e11 e12 e65
  conv => arg 2; whnf
  go_wp2_with fail
  refine KA0.out.mono ?_
  rintro e wx ⟨rfl, rfl⟩
  have KS2 := Lib.hid (KS.out _ HLS.out.pr.doc)
  go_wp2_with fail
  refine KS2.out.mono ?_
  rintro e W4 ⟨ns', z', hR, rfl, hA⟩
  obtain ⟨hzz, v', hst'⟩ := say_fin HST.out hm HSZ.out HLS.out hR hA
  subst hzz
  have HST' := Lib.hid hst'
  clear hR hA hst'
  go_wp2
  exact HQ.out _ _ ⟨rfl, rfl, rfl, rfl, v', ns', _, HST'.out⟩
end Go.Proofs.Ytodlcfhkiilpgaa
namespace Go.Proofs.Ytodlcfhkiilpgaa
open Go.RowKit Go.Shelf Go.Lib

set_option maxRecDepth 100000 in
set_option maxHeartbeats 8000000 in
theorem sw_3n (w1 W : World) (D : Nat) (v va : Value) (ns : List Nd) (os : List Ow) (m : Nat) (F : Nat → Value) (ob : Nat) (o : OpD) (a b c : Int) (h : HS w1 D v ns va os m F ob o a b c W) (hk : o.k = 3) (hin : a < os.length) (hse' : ¬ o.s.toList = []) (hc1 : c = -1) : Code.wp Try.prog plS (NQ w1 D m F) ⟨frm277 F, []⟩ W := by
  obtain ⟨st, e5, e6, e8, e10, e11, e12, e65, hob, hobw, hobd, hobo, ha, hb, hc, hsz, hm⟩ := h
  rw [hk] at e65
  have hl2 := st.len2
  have hle := st.len
  have hkd := st.kids
  have hda := st.data
  obtain ⟨Av, cv, hv, _, _, hgv⟩ := st.own.sl
  subst hv
  obtain ⟨g, rfl, hbg, hgl⟩ := hgv st.pos
  have x5 : W.cell? ⟨ob, 5, none⟩ = some (.string o.s) := by rw [cell_of_row _ _ _ _ _ _ hob]; rfl
  have HST := Lib.hid st
  have HOB := Lib.hid hob
  have HOBO := Lib.hid hobo
  have HSZ := Lib.hid hsz
  have KS := Lib.hid (fun (W' : World) (h : DocM w1.heap.size D v false ns W') => say_any a o.s c W' h (by omega) (fun x hx => by have := hkd x hx; omega) (fun x hx => by have := hda x hx; omega))
  obtain ⟨sv, hsv⟩ : ∃ sv, o.s = sv := ⟨_, rfl⟩
  rw [hsv] at x5 KS HSZ
  have HSV := Lib.hid hsv
  obtain ⟨i, rfl⟩ : ∃ i : Nat, a = i := ⟨a.toNat, by omega⟩
  have d1 : decide ((os.length : Int) ≤ (i : Int)) = false := decide_eq_false (by omega)
  have hil : i < os.length := by omega
  have hnil : ¬ os.length ≤ i := by omega
  rw [hsv] at hse'
  have hse : sv.toList.isEmpty = false := by
    cases h : sv.toList.isEmpty with
    | true => exact absurd (List.isEmpty_iff.1 h) hse'
    | false => rfl
  have hse2 : ¬ sv.toList = [] := hse'
  obtain ⟨x, hx⟩ : ∃ x, os[i]? = some x := ⟨_, List.getElem?_eq_getElem hil⟩
  obtain ⟨A0, c00, e0, hK0le, hK0mx, hA0, hr0⟩ := kid_form st.own hx
  have c4 : W.cell? ⟨g, i * 6 + 4, none⟩ = some (.slice A0 x.pl.kids.length c00) := by
    have := st.own.cell hx (show 4 < 6 by omega)
    simp only [Ow.cs, List.getElem?_cons_succ, List.getElem?_cons_zero, e0] at this
    exact this
  have hx' : (os.map Ow.pl)[i]? = some x.pl := by rw [List.getElem?_map, hx]; rfl
  have hkle : x.pl.kids.length ≤ os.length := by have := st.tr.kids_le hx'; rw [List.length_map] at this; exact this
  have HKK := Lib.hid (fun (j : Nat) (l : Int) (h : x.pl.kids[j]? = some l) => kid_kind st.tr hx h)
  obtain ⟨K, hK⟩ : ∃ K, x.pl.kids = K := ⟨_, rfl⟩
  rw [hK] at c4 hr0 hK0le e0 hkle HKK
  have hpk : pAt (os.map Ow.pl) (i : Int) Pl.kids [] = K := by rw [pAt_some hx', hK]
  have hgI : (i : Int) * 6 = ((i * 6 : Nat) : Int) := by omega
  have HNARG : Hid (¬ (inQ (os.map Ow.pl) (i : Int) = false ∨ sv.toList = [])) := Lib.hid (by rintro (h | h); rw [inQ_of hx'] at h; cases h; exact hse' h)
  have HPK := Lib.hid hpk
  have HR0 := Lib.hid hr0
  subst hc1
  obtain ⟨k, hk0⟩ : ∃ k, K.length = k := ⟨_, rfl⟩
  have HPL : Hid (plQ (os.map Ow.pl) (i : Int) (-1) = (k : Int)) := Lib.hid (by unfold plQ; rw [if_pos rfl, hpk, hk0])
  have hkl : k ≤ K.length := by omega
  have hkk : k ≤ os.length := by omega
  have hk6 : k ≤ 121 := by omega
  cases k with
  | zero =>
    have HSI : Hid (sayI (os.map Ow.pl) (i : Int) (-1) = none) := Lib.hid (by unfold sayI; rw [HPL.out]; rfl)
    have HX : Hid (txQ sv = txQ sv) := Lib.hid rfl
    have KAD := ladd_any ⟨3, ⟨#[]⟩, sv, 0, [], 0⟩ W st.own st.bw.size (by omega)
    replace KAD := Lib.hid KAD
    have HOBL := Lib.hid (Array.getElem?_eq_some_iff.1 hob).1
    rw [hk0] at c4 hK0le
    clear st hob hk hl2 hkd hda hgv hobw hobd hobo hsz hsv hin hse' hx hx' hK hpk e0 hr0 hA0 hk0
    unfold frm277
    rw [e5, e6, e8, e10, e11, e12, e65]
    clear e5 e6 e8 e10 e11 e12 e65
    conv => arg 2; whnf
    go_wp2_with fail
    refine KAD.out.mono ?_
    rintro e W2 ⟨va1, os1, rfl, hp1, ho1, hf1, hn1⟩
    replace hp1 : os1.map Ow.pl = os.map Ow.pl ++ [txQ sv] := hp1
    have hpr1 := HST.out.pr.law ho1 hf1 hn1
    have hln1 : os1.length = os.length + 1 := by
      have := congrArg List.length hp1
      rw [List.length_append, List.length_map, List.length_map] at this
      exact this
    have hob1 := (hf1.block ob HOBL.out (fun e => HOBO.out (.inl e))).trans HOB.out
    have hno1 : ¬ OB va1 os1 ob := fun e => by
      rcases hn1 ob e with e | e
      · exact HOBO.out e
      · have := HOBL.out; omega
    have htr1 : Tr (os1.map Ow.pl) := by
      rw [hp1]
      refine tr_push HST.out.tr (fun j y hy => ?_) (by simp)
      match j, hy with
      | 0, hy => simp at hy; subst hy; exact ⟨rfl, rfl, (show (1 : Int) ≤ 3 by omega), .inl rfl⟩
      | j + 1, hy => simp at hy
    have KL := Lib.hid (lput_any (i : Int) (os.length : Int) (-1) W2 ho1 htr1 hpr1.bw.size (by omega))
    have HPR1 := Lib.hid hpr1
    have HP1 := Lib.hid hp1
    have HOB1 := Lib.hid hob1
    have HNO1 := Lib.hid hno1
    have HF1 := Lib.hid hf1
    obtain ⟨A1, cv1, hv1, _⟩ := ho1.sl
    rw [hln1] at hv1
    subst hv1
    have hwr : IntKind.i64.wrap ((os.length : Int) + 1 - 1) = (os.length : Int) := by rw [IntKind.wrap_i64]; omega
    have hwr2 : ((os.length : Int) + 1 - 1) = (os.length : Int) := by omega
    clear hp1 ho1 hf1 hn1 hpr1 hob1 htr1 hno1 hln1 KAD c4
    go_wp2_with fail
    refine KL.out.mono ?_
    rintro e W3 ⟨os', rfl, hp, ho, hf, hn⟩
    have hpr3 := HPR1.out.law ho hf hn
    have hob3 := (hf.block ob (Array.getElem?_eq_some_iff.1 HOB1.out).1 (fun e => HNO1.out (.inl e))).trans HOB1.out
    have x53 : W3.cell? ⟨ob, 5, none⟩ = some (.string sv) := by rw [cell_of_row _ _ _ _ _ _ hob3, ← HSV.out]; rfl
    obtain ⟨z, hz⟩ : ∃ z, putEQ (os1.map Ow.pl) (i : Int) (os.length : Int) (-1) = z := ⟨_, rfl⟩
    have HLS : Hid (LS w1 D v ns _ os os' (i : Int) sv (-1) z W3) := Lib.hid ⟨hpr3, by
      unfold sayQ
      rw [if_neg HNARG.out, if_neg (by rw [HPL.out]; omega), HSI.out, hp, ← hz, HP1.out, List.length_map]⟩
    rw [hz]
    have dz : (z != z) = false := by simp
    clear hp ho hf hn hpr3 hob3 hz KL x5
    have KS2 := Lib.hid (KS.out _ HLS.out.pr.doc)
    go_wp2_with fail
    refine KS2.out.mono ?_
    rintro e W4 ⟨ns', z', hR, rfl, hA⟩
    obtain ⟨hzz, v', hst'⟩ := say_fin HST.out hm HSZ.out HLS.out hR hA
    subst hzz
    have HST' := Lib.hid hst'
    clear hR hA hst'
    go_wp2
    exact ⟨⟨rfl, rfl, rfl, rfl, v', ns', _, HST'.out⟩, rfl⟩
  | succ j =>
    obtain ⟨l, hlj⟩ : ∃ l, K[j]? = some l := ⟨_, List.getElem?_eq_getElem (by omega)⟩
    obtain ⟨q, y, rfl, hy⟩ := HKK.out j l hlj
    obtain ⟨bq, oq, hAq, hbq, hcq⟩ := hr0.pos (by omega)
    have cj : W.cell? ⟨bq, oq + j, none⟩ = some (.int .i64 (q : Int)) := by rw [hcq j (by omega), hlj]; rfl
    subst hAq
    have hgQ : (q : Int) * 6 = ((q * 6 : Nat) : Int) := by omega
    have hql := (List.getElem?_eq_some_iff.1 hy).1
    have cy0 : W.cell? ⟨g, q * 6 + 0, none⟩ = some (.int .i64 y.pl.kind) := st.own.cell hy (show 0 < 6 by omega)
    rw [Nat.add_zero] at cy0
    have hy' : (os.map Ow.pl)[q]? = some y.pl := by rw [List.getElem?_map, hy]; rfl
    have dj : decide ((0 : Int) < ((j + 1 : Nat) : Int)) = true := decide_eq_true (by omega)
    have dj' : decide ((0 : Int) < (j : Int) + 1) = true := decide_eq_true (by omega)
    have hjk : j < K.length := by omega
    have hsi : ∀ b, (y.pl.kind == 3) = b → sayI (os.map Ow.pl) (i : Int) (-1) = if b then some q else none := fun b hb => by
      unfold sayI
      rw [HPL.out, if_pos (by omega), hpk, Int.toNat_natCast, Nat.add_sub_cancel, hlj]
      show (if (pAt (os.map Ow.pl) (q : Int) Pl.kind 0 == 3) = true then some (q : Int).toNat else none) = _
      rw [pAt_some hy', hb, Int.toNat_natCast]
    obtain ⟨ky, hky⟩ : ∃ ky, y.pl.kind = ky := ⟨_, rfl⟩
    rw [hky] at cy0 hsi
    by_cases h3 : ky = 3
    · subst h3
      have HSI : Hid (sayI (os.map Ow.pl) (i : Int) (-1) = some q) := Lib.hid (hsi true rfl)
      have cd : W.cell? ⟨g, q * 6 + 2, none⟩ = some (.string y.pl.data) := st.own.cell hy (show 2 < 6 by omega)
      have fd : W.frozen? ⟨g, q * 6 + 2, none⟩ = false := st.own.row.frozenAt _
      have hds : y.pl.data.size ≤ 50 * m := st.dat _ (List.mem_of_getElem? hy')
      have hds2 : y.pl.data.size + sv.size ≤ 1000000 := by have := HSZ.out; omega
      have hw1 : IntKind.i64.wrap ((j : Int) + 1 - 1) = (j : Int) := by rw [IntKind.wrap_i64]; omega
      have hw3 : IntKind.i64.wrap (j : Int) = (j : Int) := by rw [IntKind.wrap_i64]; omega
      have hds3 : ¬ 9223372036854775807 < y.pl.data.size + sv.size := by omega
      have hj1 : (j : Int) < (j : Int) + 1 := by omega
      have hj2 : (j : Int) < (K.length : Int) := by omega
      obtain ⟨y2, hy2⟩ : ∃ y2, Ow.mk { y.pl with data := y.pl.data ++ sv } y.kv = y2 := ⟨_, rfl⟩
      have hbd : Below W.heap.size W W.drew := (Below.refl _ W).drew
      have stD := st.below hbd
      have T1 := stD.own.upd (x' := y2) (u := .string (y.pl.data ++ sv)) hy (show 2 < 6 by omega) (by rw [← hy2]; rfl) (by rw [← hy2]; exact stD.own.kids q y hy)
      have N1 := OB.set (v := .slice (some ⟨g, 0, none⟩) os.length cv) (x' := y2) (B := W.drew.heap.size) hy (fun k e => .inl (by rw [← hy2] at e; exact e))
      have hp1 : (os.set q y2).map Ow.pl = md (os.map Ow.pl) q (fun z => { z with data := z.data ++ sv }) := setO_pl hy (by rw [← hy2])
      have hpr1 := stD.pr.law (va' := .slice (some ⟨g, 0, none⟩) os.length cv) (os' := os.set q y2) T1.1 T1.2 N1
      have HLS : Hid (LS w1 D v ns _ os (os.set q y2) (i : Int) sv (-1) 0 (W.drew.setCell ⟨g, q * 6 + 2, none⟩ (.string (y.pl.data ++ sv)))) := Lib.hid ⟨hpr1, by
        unfold sayQ
        rw [if_neg HNARG.out, if_neg (by rw [HPL.out]; omega), HSI.out, hp1]⟩
      have hob1 := (T1.2.block ob (Array.getElem?_eq_some_iff.1 hob).1 (fun e => hobo (.inl e))).trans hob
      have x53 : (W.drew.setCell ⟨g, q * 6 + 2, none⟩ (.string (y.pl.data ++ sv))).cell? ⟨ob, 5, none⟩ = some (.string sv) := by rw [cell_of_row _ _ _ _ _ _ hob1, ← HSV.out]; rfl
      have dz : ((0 : Int) != 0) = false := by decide
      rw [hk0] at c4 hK0le
      clear st hob hk hl2 hkd hda hgv hobw hobd hobo hsz hsv hin hse' hx hx' hK hpk e0 hA0 hk0 hlj hcq hky hsi hy hy' hy2 stD T1 N1 hp1 hpr1 hob1 hbd hds hr0
      unfold frm277
      rw [e5, e6, e8, e10, e11, e12, e65]
      clear e5 e6 e8 e10 e11 e12 e65
      conv => arg 2; whnf
      go_wp2_with fail
      go_region_law (fail)
      all_goals
        have KS2 := Lib.hid (KS.out _ HLS.out.pr.doc)
        go_wp2_with fail
        refine KS2.out.mono ?_
        rintro e W4 ⟨ns', z', hR, rfl, hA⟩
        obtain ⟨hzz, v', hst'⟩ := say_fin HST.out hm HSZ.out HLS.out hR hA
        subst hzz
        have HST' := Lib.hid hst'
        clear hR hA hst'
        go_wp2
        exact ⟨⟨rfl, rfl, rfl, rfl, v', ns', _, HST'.out⟩, rfl⟩
    · have d33 : (ky == 3) = false := by rw [beq_eq_false_iff_ne]; exact h3
      have HSI : Hid (sayI (os.map Ow.pl) (i : Int) (-1) = none) := Lib.hid (hsi false d33)
      have HX : Hid (txQ sv = txQ sv) := Lib.hid rfl
      have KAD := ladd_any ⟨3, ⟨#[]⟩, sv, 0, [], 0⟩ W st.own st.bw.size (by omega)
      replace KAD := Lib.hid KAD
      have HOBL := Lib.hid (Array.getElem?_eq_some_iff.1 hob).1
      rw [hk0] at c4 hK0le
      clear st hob hk hl2 hkd hda hgv hobw hobd hobo hsz hsv hin hse' hx hx' hK hpk e0 hA0 hk0 hlj hcq hky hsi h3 hy hy' hr0
      unfold frm277
      rw [e5, e6, e8, e10, e11, e12, e65]
      clear e5 e6 e8 e10 e11 e12 e65
      conv => arg 2; whnf
      go_wp2_with fail
      refine KAD.out.mono ?_
      rintro e W2 ⟨va1, os1, rfl, hp1, ho1, hf1, hn1⟩
      replace hp1 : os1.map Ow.pl = os.map Ow.pl ++ [txQ sv] := hp1
      have hpr1 := HST.out.pr.law ho1 hf1 hn1
      have hln1 : os1.length = os.length + 1 := by
        have := congrArg List.length hp1
        rw [List.length_append, List.length_map, List.length_map] at this
        exact this
      have hob1 := (hf1.block ob HOBL.out (fun e => HOBO.out (.inl e))).trans HOB.out
      have hno1 : ¬ OB va1 os1 ob := fun e => by
        rcases hn1 ob e with e | e
        · exact HOBO.out e
        · have := HOBL.out; omega
      have htr1 : Tr (os1.map Ow.pl) := by
        rw [hp1]
        refine tr_push HST.out.tr (fun j y hy => ?_) (by simp)
        match j, hy with
        | 0, hy => simp at hy; subst hy; exact ⟨rfl, rfl, (show (1 : Int) ≤ 3 by omega), .inl rfl⟩
        | j + 1, hy => simp at hy
      have KL := Lib.hid (lput_any (i : Int) (os.length : Int) (-1) W2 ho1 htr1 hpr1.bw.size (by omega))
      have HPR1 := Lib.hid hpr1
      have HP1 := Lib.hid hp1
      have HOB1 := Lib.hid hob1
      have HNO1 := Lib.hid hno1
      have HF1 := Lib.hid hf1
      obtain ⟨A1, cv1, hv1, _⟩ := ho1.sl
      rw [hln1] at hv1
      subst hv1
      have hwr : IntKind.i64.wrap ((os.length : Int) + 1 - 1) = (os.length : Int) := by rw [IntKind.wrap_i64]; omega
      have hwr2 : ((os.length : Int) + 1 - 1) = (os.length : Int) := by omega
      clear hp1 ho1 hf1 hn1 hpr1 hob1 htr1 hno1 hln1 KAD c4 cj cy0
      go_wp2_with fail
      refine KL.out.mono ?_
      rintro e W3 ⟨os', rfl, hp, ho, hf, hn⟩
      have hpr3 := HPR1.out.law ho hf hn
      have hob3 := (hf.block ob (Array.getElem?_eq_some_iff.1 HOB1.out).1 (fun e => HNO1.out (.inl e))).trans HOB1.out
      have x53 : W3.cell? ⟨ob, 5, none⟩ = some (.string sv) := by rw [cell_of_row _ _ _ _ _ _ hob3, ← HSV.out]; rfl
      obtain ⟨z, hz⟩ : ∃ z, putEQ (os1.map Ow.pl) (i : Int) (os.length : Int) (-1) = z := ⟨_, rfl⟩
      have HLS : Hid (LS w1 D v ns _ os os' (i : Int) sv (-1) z W3) := Lib.hid ⟨hpr3, by
        unfold sayQ
        rw [if_neg HNARG.out, if_neg (by rw [HPL.out]; omega), HSI.out, hp, ← hz, HP1.out, List.length_map]⟩
      rw [hz]
      have dz : (z != z) = false := by simp
      clear hp ho hf hn hpr3 hob3 hz KL x5
      have KS2 := Lib.hid (KS.out _ HLS.out.pr.doc)
      go_wp2_with fail
      refine KS2.out.mono ?_
      rintro e W4 ⟨ns', z', hR, rfl, hA⟩
      obtain ⟨hzz, v', hst'⟩ := say_fin HST.out hm HSZ.out HLS.out hR hA
      subst hzz
      have HST' := Lib.hid hst'
      clear hR hA hst'
      go_wp2
      exact ⟨⟨rfl, rfl, rfl, rfl, v', ns', _, HST'.out⟩, rfl⟩
end Go.Proofs.Ytodlcfhkiilpgaa
