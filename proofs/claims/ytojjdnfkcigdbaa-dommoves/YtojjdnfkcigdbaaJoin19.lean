/- A step of the laws of layer 8: Move. A step of the laws of layer 8: Say, what it wants. Add of a template. -/
import Derived.Test.YtojjdnfkcigdbaaJoin18
import Derived.Test.YtojjdnfkcigdbaaJoin5
import Derived.Maps.AppendAt
import Derived.Deep.DeepCutAuto
namespace Go.Proofs.Ytojjdnfkcigdbaa
open Go.RowKit Go.Shelf Go.Lib

/-- a tree and the law's own list, apart from each other -/
structure Pr (w1 : World) (D : Nat) (v : Value) (ns : List Nd) (va : Value) (os : List Ow) (W : World) : Prop where
  doc : DocM w1.heap.size D v false ns W
  own : OwM w1.heap.size va os W
  dis : ∀ k, DB D v ns k → ¬ OB va os k
  bw : Below w1.heap.size w1 W
section
variable {w1 : World} {D : Nat} {v v' va va' : Value} {ns ns' : List Nd} {os os' : List Ow} {m : Nat} {W W' W'' : World}
theorem St.pr (h : St w1 D v ns va os m W) : Pr w1 D v ns va os W := ⟨h.doc, h.own, h.dis, h.bw⟩
theorem Pr.adds (h : Pr w1 D v ns va os W) (ha : Adds w1.heap.size D v false ns ns' W W') : ∃ v', Pr w1 D v' ns' va os W' := by
  obtain ⟨v', hd, hf, hn⟩ := ha
  refine ⟨v', hd, h.own.keep hf (fun k hk e => h.dis k e hk), fun k hk e => ?_, h.bw.trans (hf.toBelow h.bw.size (fun k e => (h.doc.in_ k e).1))⟩
  rcases hn k hk with h1 | h1
  · exact h.dis k h1 e
  · have := (h.own.in_ k e).2
    omega
theorem Pr.law (h : Pr w1 D v ns va os W) (ho : OwM w1.heap.size va' os' W') (hf : Frm (fun k => va.ownBlock = some k) W W') (hn : ∀ k, OB va' os' k → OB va os k ∨ W.heap.size ≤ k) : Pr w1 D v ns va' os' W' := by
  refine ⟨h.doc.keep hf (fun k hk e => h.dis k hk (.inl e)), ho, fun k hk e => ?_, h.bw.trans (hf.toBelow h.bw.size (fun k e => (h.own.in_ k (.inl e)).1))⟩
  rcases hn k e with e | e
  · exact h.dis k hk e
  · have := (h.doc.in_ k hk).2
    omega
theorem Pr.keep {S : Nat → Prop} (h : Pr w1 D v ns va os W) (hf : Frm S W W') (hS : ∀ k, S k → w1.heap.size ≤ k ∧ ¬ DB D v ns k ∧ ¬ OB va os k) : Pr w1 D v ns va os W' :=
  ⟨h.doc.keep hf (fun k hk e => (hS k e).2.1 hk), h.own.keep hf (fun k hk e => (hS k e).2.2 hk), h.dis, h.bw.trans (hf.toBelow h.bw.size (fun k e => (hS k e).1))⟩
theorem Pr.below (h : Pr w1 D v ns va os W) (hb : Below W.heap.size W W') : Pr w1 D v ns va os W' := h.keep (S := fun _ => False) (Frm.below hb) (fun _ e => e.elim)
theorem Pr.st (h : Pr w1 D v ns va os W) (he : ns.map Nd.pl = os.map Ow.pl) (ht : Tr (os.map Ow.pl)) (hl : os.length ≤ 1 + 2 * m) (hp : 0 < os.length) (hdat : ∀ x ∈ os.map Ow.pl, x.data.size ≤ 50 * m) (hr : ∀ r ∈ ns.map Nd.rst, r = rst0) : St w1 D v ns va os m W :=
  ⟨h.doc, h.own, he, h.dis, ht, h.bw, hl, hp, hdat, hr⟩
end
/-- how far the law's own Move is -/
def MvS (p : Int) (K : List Int) (ps0 ps : List Pl) (j : Nat) (z : Int) : Prop := (if z = 0 then mvQ p (K.drop j) ps else (ps, z)) = mvQ p K ps0
set_option maxRecDepth 100000 in
set_option maxHeartbeats 4000000 in
theorem sw_4 (Q : Exit → Act → World → Prop) (w1 W : World) (D : Nat) (v va : Value) (ns : List Nd) (os : List Ow) (m : Nat) (F : Nat → Value) (ob : Nat) (o : OpD) (a b c : Int) (h : HS w1 D v ns va os m F ob o a b c W) (hk : o.k = 4)
    (hQ : ∀ t W', PSw w1 D m F t W' → Q .normal ⟨t, []⟩ W') : Code.wp Try.prog plS Q ⟨frm277 F, []⟩ W := by
  obtain ⟨st, e5, e6, e8, e10, e11, e12, e65, hob, _, _, _, ha, hb, _, _, hm⟩ := h
  rw [hk] at e65
  have hl2 := st.len2
  have hle := st.len
  have hkd := st.kids
  obtain ⟨Av, cv, hv, _, _, hgv⟩ := st.own.sl
  rw [hv] at e6
  have hkd2 : (kdN ns a).length ≤ os.length := by
    unfold kdN
    cases hq : inN ns a with
    | false => rw [atN_none hq]; exact Nat.zero_le _
    | true =>
      obtain ⟨i, z, e, hi⟩ := inN_at hq
      rw [e, atN_some hi]
      exact hkd z (List.mem_of_getElem? hi)
  have HQ := Lib.hid hQ
  have HST := Lib.hid st
  have HV := Lib.hid hv
  have KM := Lib.hid (fun (W' : World) (h : DocM w1.heap.size D v false ns W') => move_any a b W' h (by omega) (by have h1 := h.ge; have h2 := h.lt; omega) os.length hkd (by omega))
  by_cases hin : inN ns a = true ∧ inN ns b = true ∧ a ≠ b
  · obtain ⟨hia, hib, hab⟩ := hin
    obtain ⟨i, x, rfl, hx⟩ := inN_at hia
    obtain ⟨p, y, rfl, hy⟩ := inN_at hib
    have hil := (List.getElem?_eq_some_iff.1 hx).1
    have hpl := (List.getElem?_eq_some_iff.1 hy).1
    rw [hl2] at hil hpl
    have d1 : decide ((os.length : Int) ≤ (i : Int)) = false := decide_eq_false (by omega)
    have d2 : decide ((os.length : Int) ≤ (p : Int)) = false := decide_eq_false (by omega)
    have d3 : ((i : Int) == (p : Int)) = false := by rw [beq_eq_false_iff_ne]; exact hab
    obtain ⟨ox, hox⟩ : ∃ ox, os[i]? = some ox := ⟨_, List.getElem?_eq_getElem hil⟩
    obtain ⟨A0, c00, e0, hK0le, hK0mx, hA0, hr0⟩ := kid_form st.own hox
    obtain ⟨g, rfl, hbg, hgl⟩ := hgv (by omega)
    have c4 : W.cell? ⟨g, i * 6 + 4, none⟩ = some (.slice A0 ox.pl.kids.length c00) := by
      have := (hv ▸ st.own).cell hox (show 4 < 6 by omega)
      simp only [Ow.cs, List.getElem?_cons_succ, List.getElem?_cons_zero, e0] at this
      exact this
    obtain ⟨K, hK⟩ : ∃ K, ox.pl.kids = K := ⟨_, rfl⟩
    rw [hK] at c4 hr0 hK0le e0
    have hKd : kdN ns (i : Int) = K := by rw [kdN_pl, st.eq, pAt_some (x := ox.pl) (by rw [List.getElem?_map, hox]; rfl), hK]
    have hKl : K.length ≤ os.length := by rw [← hKd]; exact hkd2
    have hgI : (i : Int) * 6 = ((i * 6 : Nat) : Int) := by omega
    obtain ⟨i0, hi, hz0, hz1, hz2⟩ := info_parts infoInt
    have FB := Lib.hid (show Below W.heap.size W (W.alloc (.cells #[] 3)) from (Below.refl _ W).alloc (Nat.le_refl _) _)
    have HO1 : Hid ((W.alloc (.cells #[] 3)).ownsRow W.heap.size 3 1 (.slice (some ⟨W.heap.size, 0, none⟩) 0 0) 0 []) := Lib.hid (World.ownsRow_lit W #[] 0 (Nat.le_refl _) (by decide) rfl)
    have HR0 := Lib.hid (hr0.below FB.out)
    have HN0 : Hid (A0 = none → c00 = 0) := Lib.hid (fun e => by rcases hA0 with ⟨_, h⟩ | ⟨_, _, h⟩; exact h; rw [h] at e; cases e)
    have HM1 : Hid (0 + K.length ≤ maxLen) := Lib.hid (by unfold maxLen; omega)
    have HM2 : Hid ((0 + K.length) * 8 ≤ 140737488355328) := Lib.hid (by omega)
    have HKD := Lib.hid hKd
    have HAB := Lib.hid hab
    have HIA := Lib.hid hia
    have HIB := Lib.hid hib
    have HEQ := Lib.hid st.eq
    clear hQ st hob hk hkd hv hgv hx hy hox e0 hA0 hr0 hK hKd hkd2 hia hib hab
    unfold frm277
    rw [e5, e6, e8, e10, e11, e12, e65]
    clear e5 e6 e8 e10 e11 e12 e65
    conv => arg 2; whnf
    go_wp2_with (at_builtin; refine wpList_append_rd rfl 30 rfl W.heap.size 3 i0 _ 8 Try.underlying30 hi hz0 hz1 hz2 _ 0 [] rfl HO1.out A0 K.length c00 rfl K .i64 rfl HR0.out HN0.out rfl HM1.out HM2.out FB.out.size ?_; intro v5 w5 ho5 hg5; rw [List.nil_append, Nat.zero_add] at ho5; obtain ⟨A5, c5, hv5⟩ := own_slice ho5; subst hv5; have HO5 := Lib.hid ho5; have HB5 : Hid (Below W.heap.size W w5) := Lib.hid (FB.out.grown hg5 FB.out.size (fun j e => (by cases e; exact Nat.le_refl _))); clear ho5 hg5)
    have hst := HST.out
    go_loopw [18, 256] (fun zv jv wr => ∃ (z : Int) (j : Nat) (osj : List Ow), zv = .int .i64 z ∧ jv = .int .i64 j ∧ j ≤ K.length ∧ osj.length = os.length ∧ Hid (Pr w1 D v ns va osj wr) ∧ Hid (wr.ownsRow W.heap.size 3 1 (.slice A5 K.length c5) K.length (K.map (Value.int .i64))) ∧ Hid (Tr (osj.map Ow.pl)) ∧ Hid (MvS p K (os.map Ow.pl) (osj.map Ow.pl) j z) ∧ W.heap.size ≤ wr.heap.size) (fun _ jv _ => K.length - (RowKit.intOf jv).toNat)
    case atStart => exact ⟨0, 0, os, rfl, rfl, Nat.zero_le _, rfl, Lib.hid (hst.pr.below HB5.out), HO5, Lib.hid hst.tr, Lib.hid rfl, HB5.out.size⟩
    case round =>
      obtain ⟨z, j, osj, rfl, rfl, hj, hlj, HPR, HOW, HTR, HMV, hsz⟩ := hrel
      by_cases hjl : j < K.length
      · have dj : decide ((j : Int) < (K.length : Int)) = true := decide_eq_true (by omega)
        obtain ⟨k, hk⟩ : ∃ k, K[j]? = some k := ⟨_, List.getElem?_eq_getElem hjl⟩
        obtain ⟨g5, hA5, cj⟩ : ∃ g5, A5 = some ⟨g5, 0, none⟩ ∧ wr.cell? ⟨g5, j, none⟩ = some (.int .i64 k) := by
          rcases HOW.out.2 with ⟨h1, h0⟩ | ⟨g5, cap, cur, e, _⟩
          · omega
          · injection e with e1 _ _
            subst e1
            refine ⟨g5, rfl, ?_⟩
            have := HOW.out.cellAt j (by omega)
            rw [List.getElem?_map, hk] at this
            simpa using this
        subst hA5
        have hdr : K.drop j = k :: K.drop (j + 1) := by
          rw [List.drop_eq_getElem_cons hjl]
          rw [List.getElem?_eq_getElem hjl] at hk
          injection hk with hk
          rw [hk]
        by_cases hz : z = 0
        · subst hz
          have KL := lput_any p k (-1) wr HPR.out.own HTR.out HPR.out.bw.size (by omega)
          unfold LPut at KL
          rw [HV.out] at KL
          replace KL := Lib.hid KL
          have HDR := Lib.hid hdr
          clear hk hdr
          go_wp2_with fail
          refine KL.out.mono ?_
          rintro e W3 ⟨os', rfl, hp, ho, hf, hn⟩
          rw [← HV.out] at ho hf hn
          have hlen : os'.length = os.length := by rw [ow_len hp, putQ_len, List.length_map]; exact hlj
          have HP3 := Lib.hid (HPR.out.law ho hf hn)
          have HO3 : Hid (W3.ownsRow W.heap.size 3 1 (.slice (some ⟨g5, 0, none⟩) K.length c5) K.length (K.map (Value.int .i64))) := Lib.hid (hf.own HOW.out (fun q e1 e2 => by
            have h1 := (HOW.out.lt q e1).1
            have h2 := (HST.out.own.in_ q (.inl e2)).2
            omega))
          have HT3 : Hid (Tr (os'.map Ow.pl)) := Lib.hid (by rw [hp]; exact putQ_tr HTR.out _ _ _)
          have HM3 : Hid (MvS p K (os.map Ow.pl) (os'.map Ow.pl) (j + 1) (putEQ (osj.map Ow.pl) p k (-1))) := Lib.hid (by
            have := HMV.out
            unfold MvS at this ⊢
            rw [if_pos rfl, HDR.out] at this
            rw [← this, hp]
            conv => rhs; unfold mvQ
            by_cases h0 : putEQ (osj.map Ow.pl) p k (-1) = 0
            · rw [if_pos h0, if_pos h0]
            · rw [if_neg h0, if_neg h0]
              congr 1
              unfold putQ
              rw [if_neg h0])
          have hsz3 : W.heap.size ≤ W3.heap.size := Nat.le_trans hsz hf.size
          clear ho hf hn hp KL
          go_wp2
          refine ⟨⟨_, j + 1, os', rfl, by go_num, by omega, hlen, HP3, HO3, HT3, HM3, hsz3⟩, by simp [RowKit.intOf]; omega⟩
        · have dz : (z == 0) = false := by rw [beq_eq_false_iff_ne]; exact hz
          have HM3 : Hid (MvS p K (os.map Ow.pl) (osj.map Ow.pl) (j + 1) z) := Lib.hid (by
            have := HMV.out
            unfold MvS at this ⊢
            rw [if_neg hz] at this ⊢
            exact this)
          clear hk hdr hz
          go_wp2
          refine ⟨⟨z, j + 1, osj, rfl, by go_num, by omega, hlj, HPR, HOW, HTR, HM3, hsz⟩, by simp [RowKit.intOf]; omega⟩
      · obtain rfl : j = K.length := by omega
        have dj : decide ((K.length : Int) < (K.length : Int)) = false := decide_eq_false (by omega)
        have hmv : (osj.map Ow.pl, z) = mvQ p K (os.map Ow.pl) := by
          have := HMV.out
          unfold MvS at this
          rw [← this]
          by_cases hz : z = 0
          · rw [if_pos hz, List.drop_eq_nil_of_le (Nat.le_refl _)]; unfold mvQ; rw [hz]
          · rw [if_neg hz]
        have HMV2 := Lib.hid hmv
        have KM2 := Lib.hid (KM.out wr HPR.out.doc)
        have dz : (z != z) = false := by simp
        clear hmv
        go_wp2_with fail
        refine KM2.out.mono ?_
        rintro e W4 ⟨ns', z', hor, rfl, hA⟩
        have hmr : MvR p K ns ns' z' := by
          rcases hor with ⟨_, _, _, h⟩ | ⟨h, _⟩
          · rw [HKD.out] at h; exact h
          · rcases h with h | h | h
            · rw [HIA.out] at h; cases h
            · rw [HIB.out] at h; cases h
            · exact absurd h HAB.out
        have hm2 := mv_pl hmr (by rw [HEQ.out]; exact HST.out.tr) (by omega)
        rw [HEQ.out, ← HMV2.out] at hm2
        injection hm2 with hm2 hzz
        subst hzz
        obtain ⟨v', hp4⟩ := HPR.out.adds hA
        have hst := HST.out
        have HFIN := Lib.hid (hp4.st (m := m + 1) hm2 HTR.out (by omega) (by omega) (by
          have e1 : osj.map Ow.pl = (mvQ p K (os.map Ow.pl)).1 := by rw [← HMV2.out]
          rw [e1]
          exact mv_dat K (fun x hx => by have := hst.dat x hx; omega)) (by rw [mv_rst hmr]; exact hst.rst))
        rw [HV.out] at HFIN
        clear hor hA hmr hm2 hp4 hst
        go_wp2
        exact HQ.out _ _ ⟨rfl, rfl, rfl, rfl, v', ns', osj, HFIN.out⟩
  · have HIN := Lib.hid hin
    have hn : ∀ q : Int, 0 ≤ q → (inN ns q = true ↔ q < os.length) := fun q hq => by
      unfold inN
      rw [decide_eq_true hq, Bool.true_and, decide_eq_true_eq, hl2]
    rw [hn a ha, hn b hb] at hin
    clear hn
    by_cases h1 : (os.length : Int) ≤ a
    · have d1 : decide ((os.length : Int) ≤ a) = true := decide_eq_true h1
      have KM2 := Lib.hid (KM.out W st.doc)
      clear hQ st hob hk hkd hv hgv hkd2 hin h1
      unfold frm277
      rw [e5, e6, e8, e10, e11, e12, e65]
      clear e5 e6 e8 e10 e11 e12 e65
      conv => arg 2; whnf
      go_wp2_with fail
      refine KM2.out.mono ?_
      rintro e W4 ⟨ns', z', hor, rfl, hA⟩
      obtain ⟨rfl, rfl⟩ : ns' = ns ∧ z' = 1 := by
        rcases hor with ⟨h1, h2, h3, _⟩ | ⟨_, h, h'⟩
        · exact absurd ⟨h1, h2, h3⟩ HIN.out
        · exact ⟨h, h'⟩
      have hst := HST.out
      obtain ⟨v', hp4⟩ := hst.pr.adds hA
      have HFIN := Lib.hid (hp4.st (m := m + 1) hst.eq hst.tr (by omega) hst.pos (fun x hx => by have := hst.dat x hx; omega) hst.rst)
      rw [HV.out] at HFIN
      clear hor hA hp4 hst
      go_wp2
      exact HQ.out _ _ ⟨rfl, rfl, rfl, rfl, v', ns', os, HFIN.out⟩
    · have d1 : decide ((os.length : Int) ≤ a) = false := decide_eq_false h1
      by_cases h2 : (os.length : Int) ≤ b
      · have d2 : decide ((os.length : Int) ≤ b) = true := decide_eq_true h2
        have KM2 := Lib.hid (KM.out W st.doc)
        clear hQ st hob hk hkd hv hgv hkd2 hin h1 h2
        unfold frm277
        rw [e5, e6, e8, e10, e11, e12, e65]
        clear e5 e6 e8 e10 e11 e12 e65
        conv => arg 2; whnf
        go_wp2_with fail
        refine KM2.out.mono ?_
        rintro e W4 ⟨ns', z', hor, rfl, hA⟩
        obtain ⟨rfl, rfl⟩ : ns' = ns ∧ z' = 1 := by
          rcases hor with ⟨h1, h2, h3, _⟩ | ⟨_, h, h'⟩
          · exact absurd ⟨h1, h2, h3⟩ HIN.out
          · exact ⟨h, h'⟩
        have hst := HST.out
        obtain ⟨v', hp4⟩ := hst.pr.adds hA
        have HFIN := Lib.hid (hp4.st (m := m + 1) hst.eq hst.tr (by omega) hst.pos (fun x hx => by have := hst.dat x hx; omega) hst.rst)
        rw [HV.out] at HFIN
        clear hor hA hp4 hst
        go_wp2
        exact HQ.out _ _ ⟨rfl, rfl, rfl, rfl, v', ns', os, HFIN.out⟩
      · have d2 : decide ((os.length : Int) ≤ b) = false := decide_eq_false h2
        have d3 : (a == b) = true := by
          rw [beq_iff_eq]
          rcases Classical.em (a = b) with h | h
          · exact h
          · exact absurd ⟨by omega, by omega, h⟩ hin
        have KM2 := Lib.hid (KM.out W st.doc)
        clear hQ st hob hk hkd hv hgv hkd2 hin h1 h2
        unfold frm277
        rw [e5, e6, e8, e10, e11, e12, e65]
        clear e5 e6 e8 e10 e11 e12 e65
        conv => arg 2; whnf
        go_wp2_with fail
        refine KM2.out.mono ?_
        rintro e W4 ⟨ns', z', hor, rfl, hA⟩
        obtain ⟨rfl, rfl⟩ : ns' = ns ∧ z' = 1 := by
          rcases hor with ⟨h1, h2, h3, _⟩ | ⟨_, h, h'⟩
          · exact absurd ⟨h1, h2, h3⟩ HIN.out
          · exact ⟨h, h'⟩
        have hst := HST.out
        obtain ⟨v', hp4⟩ := hst.pr.adds hA
        have HFIN := Lib.hid (hp4.st (m := m + 1) hst.eq hst.tr (by omega) hst.pos (fun x hx => by have := hst.dat x hx; omega) hst.rst)
        rw [HV.out] at HFIN
        clear hor hA hp4 hst
        go_wp2
        exact HQ.out _ _ ⟨rfl, rfl, rfl, rfl, v', ns', os, HFIN.out⟩
end Go.Proofs.Ytojjdnfkcigdbaa
namespace Go.Proofs.Ytojjdnfkcigdbaa
open Go.RowKit Go.Shelf Go.Lib

theorem say_rst {ns ns' : List Nd} {up before z : Int} {s : ByteArray} (hs : SayR ns up s before ns' z) (h : ∀ r ∈ ns.map Nd.rst, r = rst0) : ∀ r ∈ ns'.map Nd.rst, r = rst0 := by
  cases hs with
  | arg _ => exact h
  | miss _ _ _ => exact h
  | grow l _ _ _ _ => rw [setD_rst]; exact h
  | new A c v1 v2 _ _ _ _ =>
    rw [putP_rst, List.map_append]
    intro r hr
    rcases List.mem_append.1 hr with hr | hr
    · exact h r hr
    · simp only [List.map_cons, List.map_nil, List.mem_singleton] at hr
      rw [hr]
      rfl
theorem say_dat {ps : List Pl} {up before : Int} {s : ByteArray} {B : Nat} (h : ∀ x ∈ ps, x.data.size ≤ B) (hs : s.size ≤ 50) : ∀ x ∈ (sayQ ps up s before).1, x.data.size ≤ B + 50 := by
  have h' : ∀ x ∈ ps, x.data.size ≤ B + 50 := fun x hx => by have := h x hx; omega
  unfold sayQ
  split
  · exact h'
  · split
    · exact h'
    · split
      · exact md_dat h' (fun x hx => by have := h x hx; simp only [ByteArray.size_append]; omega)
      · refine put_dat (fun x hx => ?_)
        rcases List.mem_append.1 hx with hx | hx
        · exact h' x hx
        · rw [List.mem_singleton] at hx
          subst hx
          show s.size ≤ _
          omega
theorem sayQ_len (ps : List Pl) (up : Int) (s : ByteArray) (before : Int) : ps.length ≤ (sayQ ps up s before).1.length ∧ (sayQ ps up s before).1.length ≤ ps.length + 1 := by
  unfold sayQ
  split
  · simp
  · split
    · simp
    · split
      · rw [md_len]; omega
      · rw [putQ_len, List.length_append]; simp
/-- the list of the law, when the tree's call comes -/
structure LS (w1 : World) (D : Nat) (v : Value) (ns : List Nd) (va' : Value) (os os' : List Ow) (a : Int) (s : ByteArray) (c z : Int) (W' : World) : Prop where
  pr : Pr w1 D v ns va' os' W'
  eq : (os'.map Ow.pl, z) = sayQ (os.map Ow.pl) a s c
/-- behind the tree's call -/
theorem say_fin {w1 W W' W'' : World} {D : Nat} {v va va' : Value} {ns ns' : List Nd} {os os' : List Ow} {m : Nat} {a c z z' : Int} {s : ByteArray} (st : St w1 D v ns va os m W) (hm : m < 60) (hsz : s.size ≤ 50) (hL : LS w1 D v ns va' os os' a s c z W') (hR : SayR ns a s c ns' z') (hA : Adds w1.heap.size D v false ns ns' W' W'') : z' = z ∧ ∃ v', St w1 D v' ns' va' os' (m + 1) W'' := by
  have hle := st.len
  have hl2 := st.len2
  have h2 := say_pl (by rw [st.eq]; exact st.tr) (by omega) hR
  rw [st.eq, ← hL.eq] at h2
  injection h2 with h2 h3
  obtain ⟨v', hp⟩ := hL.pr.adds hA
  have e1 : os'.map Ow.pl = (sayQ (os.map Ow.pl) a s c).1 := by rw [← hL.eq]
  have hln := sayQ_len (os.map Ow.pl) a s c
  rw [← e1, List.length_map, List.length_map] at hln
  have hpos := st.pos
  exact ⟨h3, v', hp.st (m := m + 1) h2 (by rw [e1]; exact sayQ_tr st.tr _ _ _) (by omega) (by omega) (by
    rw [e1]
    intro x hx
    have := say_dat st.dat hsz x hx
    omega) (say_rst hR st.rst)⟩
/-- the kind of a kid -/
theorem kid_kind {os : List Ow} (ht : Tr (os.map Ow.pl)) {i : Nat} {x : Ow} (hx : os[i]? = some x) {j : Nat} {l : Int} (hl : x.pl.kids[j]? = some l) : ∃ (q : Nat) (y : Ow), l = (q : Int) ∧ os[q]? = some y := by
  have hx' : (os.map Ow.pl)[i]? = some x.pl := by rw [List.getElem?_map, hx]; rfl
  obtain ⟨q, y', e, hy, _⟩ := ht.kup i _ hx' l (List.mem_of_getElem? hl)
  obtain ⟨y, hy, _⟩ := ow_get rfl hy
  exact ⟨q, y, e, hy⟩
/-- behind the switch, and at no other end -/
def NQ (w1 : World) (D : Nat) (m : Nat) (F : Nat → Value) (e : Exit) (a : Act) (w : World) : Prop := match e with
  | .normal => PSw w1 D m F a.tmps w ∧ a.defers = []
  | _ => False
theorem NQ.lift {w1 W : World} {D m : Nat} {F : Nat → Value} {C : Code} {s : Act} {Q : Exit → Act → World → Prop} (h : Code.wp Try.prog C (NQ w1 D m F) s W) (hQ : ∀ t W', PSw w1 D m F t W' → Q .normal ⟨t, []⟩ W') : Code.wp Try.prog C Q s W := by
  refine Code.wp_mono (fun e a w h => ?_) h
  cases e with
  | normal =>
    obtain ⟨h1, h2⟩ := h
    obtain ⟨t, d⟩ := a
    simp only at h2
    subst h2
    exact hQ t w h1
  | _ => exact h.elim
end Go.Proofs.Ytojjdnfkcigdbaa
namespace Go.Proofs.Ytojjdnfkcigdbaa
open Go.RowKit Go.Lib

/-- a template alone, its contents beneath the next node -/
def tplNd (n : Nd) (A : Option Addr) (c : Nat) (k : Nat) : Nd := { aloneNd n A c with inner := (k : Int) + 1 }
theorem page_one : ∀ u ∈ pageNd.cs, u.oneCell' = true := by
  intro u hu
  simp only [pageNd, Nd.cs, List.mem_cons, List.not_mem_nil, or_false] at hu
  rcases hu with rfl | rfl | rfl | rfl | rfl | rfl | rfl | rfl | rfl | rfl <;> rfl
section
variable {base D : Nat} {v : Value} {qk : Bool} {ns : List Nd} {W : World}
set_option maxRecDepth 100000 in
set_option maxHeartbeats 1000000 in
theorem add_tpl (n : Nd) (h : DocM base D v qk ns W) (hb : base ≤ W.heap.size) (ht : tplB n = true) (hl : ns.length + 1 < 20000) (hr : RdA W n.aA n.attrs) (hA : n.aA = none → n.attrs = []) (hal : n.attrs.length ≤ 1000000) :
    Calls Try.prog 24 #[.pointer (some ⟨D, 0, none⟩), .agg n.cs.toArray] W fun e W' => e = .returned (.int .i64 ns.length) ∧ ∃ A c, Adds base D v qk ns (ns ++ [tplNd n A c ns.length, pageNd]) W W' := by
  obtain ⟨i0, hi, hz0, hz1, hz2⟩ := info_parts infoNd
  obtain ⟨W1, hW1⟩ : ∃ W1, W.alloc (.cells n.cs.toArray 53) = W1 := ⟨_, rfl⟩
  have hs1 : W1.heap.size = W.heap.size + 1 := by rw [← hW1, World.size_alloc]
  have hb1 : Below W.heap.size W W1 := by rw [← hW1]; exact (Below.refl _ W).alloc (Nat.le_refl _) _
  have g1 : W1.heap[W.heap.size]? = some (.cells n.cs.toArray 53 (0, 0)) := by rw [← hW1]; exact heap_alloc_new W _
  obtain ⟨An, cap, rfl, hle, hmx, hg⟩ := h.sl
  have d0 := (h.below hb1).cells.1
  have l0 : W1.cell? ⟨W.heap.size, 0, none⟩ = some (.int .i64 n.kind) := by rw [cell_of_row W1 _ _ _ _ _ g1]; rfl
  have l1 : W1.cell? ⟨W.heap.size, 1, none⟩ = some (.int .i64 n.space) := by rw [cell_of_row W1 _ _ _ _ _ g1]; rfl
  have l2 : W1.cell? ⟨W.heap.size, 2, none⟩ = some (.string n.name) := by rw [cell_of_row W1 _ _ _ _ _ g1]; rfl
  have l3 : W1.cell? ⟨W.heap.size, 3, none⟩ = some (.string n.data) := by rw [cell_of_row W1 _ _ _ _ _ g1]; rfl
  have l4 : W1.cell? ⟨W.heap.size, 4, none⟩ = some (.slice n.aA n.attrs.length n.ac) := by rw [cell_of_row W1 _ _ _ _ _ g1]; rfl
  have l5 : W1.cell? ⟨W.heap.size, 5, none⟩ = some (.string n.pub) := by rw [cell_of_row W1 _ _ _ _ _ g1]; rfl
  have l6 : W1.cell? ⟨W.heap.size, 6, none⟩ = some (.string n.sys) := by rw [cell_of_row W1 _ _ _ _ _ g1]; rfl
  have l7 : W1.cell? ⟨W.heap.size, 7, none⟩ = some (.int .i64 n.up) := by rw [cell_of_row W1 _ _ _ _ _ g1]; rfl
  have l8 : W1.cell? ⟨W.heap.size, 8, none⟩ = some n.kv := by rw [cell_of_row W1 _ _ _ _ _ g1]; rfl
  have l9 : W1.cell? ⟨W.heap.size, 9, none⟩ = some (.int .i64 n.inner) := by rw [cell_of_row W1 _ _ _ _ _ g1]; rfl
  have KA := Lib.hid (alone_any n W1 (hr.below hb1) hA hal)
  have HB1 := Lib.hid hb1
  have HD := Lib.hid h
  have G1 := Lib.hid g1
  have HT := Lib.hid ht
  have hD : D < W.heap.size := h.lt
  have HB := Lib.hid hb
  have HS1 := Lib.hid hs1
  have HMX := Lib.hid hmx
  have HL := Lib.hid hl
  have HLE := Lib.hid hle
  have g2 : decide ((20000 : Int) < (ns.length : Int) + 2) = false := decide_eq_false (by omega)
  clear hr hA hb1 g1 h ht hg hb hs1 hmx hle
  unfold Nd.cs at hW1 KA ⊢
  simp only [List.toArray] at hW1
  subst hW1
  go_enter Try.func24, Try.ntmps24
  go_wp2_with fail
  refine KA.out.mono ?_
  rintro e w2 ⟨A, c, rfl, hoA, hb2⟩
  have g1 : w2.heap[W.heap.size]? = some (.cells n.cs.toArray 53 (0, 0)) := (hb2.block _ (by rw [World.size_alloc]; omega)).trans G1.out
  have hbw : Below W.heap.size W w2 := HB1.out.trans (hb2.mono (by rw [World.size_alloc]; omega))
  have hd2 := HD.out.below hbw
  have hs2 := hbw.size
  have hs2' : W.heap.size < w2.heap.size := (Array.getElem?_eq_some_iff.1 g1).1
  clear l0 l1 l2 l3 l4 l5 l6 l7 l8 l9 d0 KA
  obtain ⟨W3, hW3⟩ : ∃ W3, w2.alloc (.cells (aloneNd n A c).cs.toArray 53) = W3 := ⟨_, rfl⟩
  have hb3 : Below w2.heap.size w2 W3 := by rw [← hW3]; exact (Below.refl _ w2).alloc (Nat.le_refl _) _
  have hs3 : W3.heap.size = w2.heap.size + 1 := by rw [← hW3, World.size_alloc]
  have g3 : W3.heap[w2.heap.size]? = some (.cells (aloneNd n A c).cs.toArray 53 (0, 0)) := by rw [← hW3]; exact heap_alloc_new w2 _
  have q1 := (hb3.block _ hs2').trans g1
  have l0 : W3.cell? ⟨W.heap.size, 0, none⟩ = some (.int .i64 n.kind) := by rw [cell_of_row W3 _ _ _ _ _ q1]; rfl
  have l1 : W3.cell? ⟨W.heap.size, 1, none⟩ = some (.int .i64 n.space) := by rw [cell_of_row W3 _ _ _ _ _ q1]; rfl
  have l2 : W3.cell? ⟨W.heap.size, 2, none⟩ = some (.string n.name) := by rw [cell_of_row W3 _ _ _ _ _ q1]; rfl
  have l3 : W3.cell? ⟨W.heap.size, 3, none⟩ = some (.string n.data) := by rw [cell_of_row W3 _ _ _ _ _ q1]; rfl
  have l4 : W3.cell? ⟨W.heap.size, 4, none⟩ = some (.slice n.aA n.attrs.length n.ac) := by rw [cell_of_row W3 _ _ _ _ _ q1]; rfl
  have l5 : W3.cell? ⟨W.heap.size, 5, none⟩ = some (.string n.pub) := by rw [cell_of_row W3 _ _ _ _ _ q1]; rfl
  have l6 : W3.cell? ⟨W.heap.size, 6, none⟩ = some (.string n.sys) := by rw [cell_of_row W3 _ _ _ _ _ q1]; rfl
  have l7 : W3.cell? ⟨W.heap.size, 7, none⟩ = some (.int .i64 n.up) := by rw [cell_of_row W3 _ _ _ _ _ q1]; rfl
  have l8 : W3.cell? ⟨W.heap.size, 8, none⟩ = some n.kv := by rw [cell_of_row W3 _ _ _ _ _ q1]; rfl
  have l9 : W3.cell? ⟨W.heap.size, 9, none⟩ = some (.int .i64 n.inner) := by rw [cell_of_row W3 _ _ _ _ _ q1]; rfl
  have KT := isTpl_any n W3
  rw [HT.out] at KT
  have KTH := Lib.hid KT
  have HBW := Lib.hid hbw
  have HD2 := Lib.hid hd2
  have HS2 := Lib.hid hs2
  have HS2' := Lib.hid hs2'
  have HB3 := Lib.hid hb3
  have HS3 := Lib.hid hs3
  have G3 := Lib.hid g3
  have HOA := Lib.hid hoA
  have HB2 := Lib.hid hb2
  clear KT hbw hd2 hs2 hs2' hb3 hs3 g3 q1 hoA hb2 g1 HB1 G1 hD
  unfold Nd.cs at hW3 KTH
  subst hW3
  go_wp2_with fail
  refine KTH.out.mono ?_
  rintro e w4 ⟨rfl, hb4⟩
  have hd4 := (HD2.out.below HB3.out).below hb4
  have g4 := (hb4.block w2.heap.size (by have := HS3.out; omega)).trans G3.out
  have hs4 := hb4.size
  have hM : w2.heap.size < w4.heap.size := by have := HS3.out; omega
  have m9 : w4.cell? ⟨w2.heap.size, 9, none⟩ = some (.int .i64 (-1)) := by rw [cell_of_row _ _ _ _ _ _ g4]; rfl
  have f9 : w4.frozen? ⟨w2.heap.size, 9, none⟩ = false := by simp [World.frozen?, g4]
  have HD4 := Lib.hid hd4
  have HG4 := Lib.hid g4
  have HB4 := Lib.hid hb4
  clear hd4 g4 hs4 hb4 l0 l1 l2 l3 l4 l5 l6 l7 l8 l9
  go_upto_region 7 with fail
  obtain ⟨W5, hW5⟩ : ∃ W5, w4.setCell ⟨w2.heap.size, 9, none⟩ (.int .i64 ((ns.length : Int) + 1)) = W5 := ⟨_, rfl⟩
  have q5 : W5.heap[w2.heap.size]? = some (.cells (tplNd n A c ns.length).cs.toArray 53 (0, 0)) := by
    rw [← hW5]; exact heap_setCell_same _ _ 9 _ _ _ HG4.out
  have hs5 : W5.heap.size = w4.heap.size := by rw [← hW5]; simp [World.setCell]
  have hb5 : Below W.heap.size W W5 := by
    rw [← hW5]
    exact ((HBW.out.trans (HB3.out.mono HS2.out)).trans (HB4.out.mono (by have := HS3.out; have := HS2.out; omega))).setCell (p := ⟨w2.heap.size, 9, none⟩) HS2.out _
  rw [hW5]
  clear m9 f9
  have ho5 : W5.ownsRow w2.heap.size 53 10 (.slice (some ⟨w2.heap.size, 0, none⟩) 1 1) 1 (tplNd n A c ns.length).cs :=
    ⟨rfl, .inr ⟨w2.heap.size, 1, (tplNd n A c ns.length).cs.toArray, rfl, Nat.le_refl _, q5, Nat.le_refl _, by decide, rfl, rfl⟩⟩
  have KP := Lib.hid (page_any W5)
  have hm5 : w2.heap.size < W5.heap.size := by omega
  have HO5 := Lib.hid ho5
  have HB5 := Lib.hid hb5
  have HM5 := Lib.hid hm5
  have HOA4 := Lib.hid (own_keep (own_keep HOA.out HB3.out) HB4.out)
  have HNA : Hid ((Value.slice A n.attrs.length c).ownBlock ≠ some w2.heap.size) := Lib.hid (row_neD HOA4.out HG4.out (by decide))
  have hfr5 : Frm (fun k => k = w2.heap.size) w4 W5 := by rw [← hW5]; exact Frm.set _ rfl
  have HFR5 := Lib.hid hfr5
  clear q5 hs5 hb5 ho5 hM HG4 hfr5 hW5
  unfold pageNd Nd.cs at KP
  simp only [List.length_nil] at KP
  go_wp2_with fail
  refine KP.out.mono ?_
  rintro e w6 ⟨rfl, hw6⟩
  have hb6 : Below W5.heap.size W5 w6 := by rw [hw6]; exact (Below.refl _ W5).alloc (Nat.le_refl _) _
  clear hw6
  obtain ⟨W7, hW7⟩ : ∃ W7, w6.alloc (.cells pageNd.cs.toArray 53) = W7 := ⟨_, rfl⟩
  have hb7 : Below w6.heap.size w6 W7 := by rw [← hW7]; exact (Below.refl _ w6).alloc (Nat.le_refl _) _
  have g7 : W7.heap[w6.heap.size]? = some (.cells pageNd.cs.toArray 53 (0, 0)) := by rw [← hW7]; exact heap_alloc_new w6 _
  have hb57 : Below W5.heap.size W5 W7 := hb6.trans (hb7.mono hb6.size)
  have HO7 := Lib.hid (own_keep HO5.out hb57)
  have HN7 := Lib.hid (cells_add g7)
  have HB57 := Lib.hid hb57
  have HBS7 := Lib.hid (show w2.heap.size ≤ W7.heap.size by have := hb57.size; omega)
  have H71 := Lib.hid (show 1 + 1 ≤ maxLen by decide)
  have H72 := Lib.hid (show (1 + 1) * 144 ≤ 140737488355328 by decide)
  unfold pageNd Nd.cs at hW7
  simp only [List.length_nil] at hW7
  clear g7 hb7 hb6 hb57 hm5 KP
  subst hW7
  go_upto_region 8 with (at_builtin; refine wpList_append_own_at _ rfl _ _ 47 rfl w2.heap.size 53 i0 _ 10 144 Try.underlying47 hi hz0 hz1 hz2 rfl (by decide) _ 1 (tplNd n A c ns.length).cs rfl HO7.out ⟨w6.heap.size, 0, none⟩ 1 1 pageNd.cs rfl rfl HN7.out page_one H71.out H72.out HBS7.out ?_; intro v8 w8 hown8 hg8 hz8 hblk8; clear hz8 hblk8)
  have hg8' : World.grownBy _ w8 (some w2.heap.size) := hg8
  obtain ⟨g8, c8, rfl⟩ : ∃ g c, v8 = .slice (some ⟨g, 0, none⟩) 2 c := by
    rcases hown8.2 with ⟨_, h⟩ | ⟨g, cap, cur, h, _⟩
    · omega
    · exact ⟨g, cap, h⟩
  have hb8 : Below W.heap.size W w8 := (HB5.out.trans (HB57.out.mono HB5.out.size)).grown hg8' (by have := HBS7.out; have := HS2.out; omega) (fun k e => by cases e; exact HS2.out)
  have hd8 := HD.out.below hb8
  have fr48 : Frm (fun k => k = w2.heap.size) w4 w8 := (HFR5.out.trans (Frm.below HB57.out)).trans (Frm.grown hg8' (fun k e => by cases e; rfl))
  have hoA8 := fr48.own HOA4.out (fun k e h => HNA.out (h ▸ e))
  have HNEW := Lib.hid (hown8.cells (g := g8) rfl)
  have c0 := hd8.cells.1
  have HDD := Lib.hid hd8.hd
  have HDL := Lib.hid hd8.lt
  have HNE := Lib.hid hd8.row_neD
  have HROW := Lib.hid hd8.row
  have H63 := Lib.hid (show ns.length + 2 ≤ maxLen by unfold maxLen; omega)
  have HBY := Lib.hid (show (ns.length + 2) * 144 ≤ 140737488355328 by omega)
  have HBZ := Lib.hid (show base ≤ w8.heap.size by have := HB.out; have := hb8.size; omega)
  have HONE := Lib.hid (show ∀ u ∈ (tplNd n A c ns.length).cs ++ pageNd.cs, u.oneCell' = true from fun u hu => by
    rcases List.mem_append.1 hu with h | h
    · simp only [tplNd, aloneNd, Nd.cs, List.mem_cons, List.not_mem_nil, or_false] at h
      rcases h with rfl | rfl | rfl | rfl | rfl | rfl | rfl | rfl | rfl | rfl <;> rfl
    · exact page_one u h)
  have HB8 := Lib.hid hb8
  have HOA8 := Lib.hid hoA8
  have HDOC := Lib.hid hd8
  clear hown8 hg8 hg8' hb8 hd8 fr48 hoA8
  go_wp2_with (at_builtin; refine wpList_append_own_at _ rfl _ _ 47 rfl base 53 i0 _ 10 144 Try.underlying47 hi hz0 hz1 hz2 rfl (by decide) _ ns.length (cellsN ns) rfl HROW.out ⟨g8, 0, none⟩ 2 c8 ((tplNd n A c ns.length).cs ++ pageNd.cs) rfl rfl HNEW.out HONE.out H63.out HBY.out HBZ.out ?_; intro v' w9 hown9 hgrow9 hz9 hblk9; clear hz9; obtain ⟨A9, c9, rfl⟩ := own_slice hown9; have hd9 := (hgrow9.block D HDL.out (fun e => HNE.out e.symm)).trans HDD.out; have fz9 : w9.frozen? ⟨D, 0, none⟩ = false := (by simp [World.frozen?, hd9]); have c09 : w9.cell? ⟨D, 0, none⟩ = some (.slice An ns.length cap) := (by rw [cell_of_row _ _ _ _ _ _ hd9]; rfl))
  go_ret
  clear c0 c09 fz9
  have hf9 : Frm (fun k => k = D ∨ (Value.slice An ns.length cap).ownBlock = some k) W (w9.setCell ⟨D, 0, none⟩ (.slice A9 (ns.length + 2) c9)) :=
    (Frm.trans (Frm.below HB8.out) (Frm.grown hgrow9 (fun k e => .inr e))).trans (Frm.set _ (.inl rfl))
  have hd10 : (w9.setCell ⟨D, 0, none⟩ (.slice A9 (ns.length + 2) c9)).heap[D]? = some (.cells #[.slice A9 (ns.length + 2) c9, .bool qk] 49 (0, 0)) := heap_setCell_same _ D 0 _ _ _ hd9
  have hne9 : (Value.slice A9 (ns.length + 2) c9).ownBlock ≠ some D := row_neD hown9 hd9 (by decide)
  have hr10 := (Frm.set (S := fun k => k = D) (A := w9) (p := ⟨D, 0, none⟩) (.slice A9 (ns.length + 2) c9) rfl).own hown9 (fun k e h => hne9 (h ▸ e))
  have hoA9 := (Frm.grown (S := fun k => (Value.slice An ns.length cap).ownBlock = some k) hgrow9 (fun k e => e)).own HOA8.out (fun k e h => rows_neN HOA8.out HROW.out (by decide) k e h)
  have hoA10 := (Frm.set (S := fun k => k = D) (A := w9) (p := ⟨D, 0, none⟩) (.slice A9 (ns.length + 2) c9) rfl).own hoA9 (fun k e h => row_neD hoA9 hd9 (by decide) (h ▸ e))
  refine ⟨rfl, A, c, .slice A9 (ns.length + 2) c9, ?_, hf9.mono (fun k h => by rcases h with h | h; exact .inl h; exact .inr (.inl h)), ?_⟩
  · refine HD.out.push hf9 hd10 (by simpa [cellsN] using hr10) ?_
    intro x hx
    simp at hx
    rcases hx with rfl | rfl
    · refine ⟨rfl, rfl, own_move hoA10 (fun _ _ => rfl) ?_⟩
      have := HB.out
      rw [World.size_alloc]
      omega
    · exact ⟨rfl, rfl, World.ownsRow_nil _ _ _ _⟩
  · refine DB.push ?_ ?_
    · rcases hblk9 with h | h
      · exact .inl h
      · exact .inr ⟨_, h, HB8.out.size⟩
    · intro x hx
      simp at hx
      rcases hx with rfl | rfl
      · refine ⟨rfl, fun k e => ?_⟩
        have := (HOA.out.lt k e).1
        rw [World.size_alloc] at this
        omega
      · exact ⟨rfl, fun k e => by cases e⟩
end
end Go.Proofs.Ytojjdnfkcigdbaa
