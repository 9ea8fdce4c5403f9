/- The law of DomWalks. -/
import Derived.Test.YtojjdnfkcigdbaaJk
import Derived.Stop.RegionWithIn
import Derived.Deep.RegionHeld3
namespace Go.Proofs.Ytojjdnfkcigdbaa
open Go.RowKit Go.Shelf Go.Lib
attribute [local go_sem] Oper.semAt_some

set_option maxRecDepth 100000 in
set_option maxHeartbeats 60000000 in
theorem domWalks_law (ops : List OpD) (O : Option Addr) (co : Nat) (a stop : Int) (w : World) (hO : RdO w O ops) : Calls Try.prog 4 #[.slice O ops.length co, .int .i64 a, .int .i64 stop] w fun e w' => e = .returned (.bool true) ∧ Below w.heap.size w w' := by
  have HO := Lib.hid hO
  clear hO
  refine (callsIn_wide (n := 9)).1 ?_
  refine callsIn_of_wp_marks Try.func4 rfl trivial ?_ rfl
  simp only [Try.ntmps4, List.size_toArray, List.length_cons, List.length_nil, Nat.reduceAdd, Nat.reduceSub, Array.replicate_succ, Array.replicate_zero, List.push_toArray, List.append_toArray, List.nil_append, List.cons_append]
  refine wpIn_wide.2 ?_
  go_wp2_with fail
  obtain ⟨W0, hW0⟩ : ∃ W0, (w.alloc (.cells #[.int .i64 stop] 3)).alloc (.cells #[.bool false] 4) = W0 := ⟨_, rfl⟩
  have hs0 : W0.heap.size = w.heap.size + 2 := by rw [← hW0]; simp
  have hb0 : Below w.heap.size w W0 := by rw [← hW0]; exact ((Below.refl _ w).alloc (Nat.le_refl _) _).alloc (by simp) _
  have q5 : W0.heap[w.heap.size]? = some (.cells #[.int .i64 stop] 3 (0, 0)) := by
    rw [← hW0, Below.heap_alloc _ _ _ (by simp)]
    exact heap_alloc_new w _
  have q6 : W0.heap[w.heap.size + 1]? = some (.cells #[.bool false] 4 (0, 0)) := by
    rw [← hW0]
    have := heap_alloc_new (w.alloc (.cells #[.int .i64 stop] 3)) (.cells #[.bool false] 4)
    simpa using this
  rw [hW0]
  have HS0 := Lib.hid hs0
  have HB0 := Lib.hid hb0
  have Q5 := Lib.hid q5
  have Q6 := Lib.hid q6
  clear hW0 hs0 hb0 q5 q6
  refine (head8_any W0).mono ?_
  rintro e W1 ⟨rfl, hb1⟩
  have KP := Lib.hid (play_any ops O co W1 ((HO.out.below HB0.out).below (hb1.mono (Nat.le_refl _))))
  have HB1 := Lib.hid hb1
  clear hb1
  go_wp2_with fail
  refine KP.out.mono ?_
  rintro e W2 ⟨D, v, ns, va, os, rfl, st⟩
  obtain ⟨Av, cv, hva, _, _, hgv⟩ := st.own.sl
  have hpos := st.pos
  obtain ⟨g, hAv, _, _⟩ := hgv hpos
  subst hAv hva
  have hl2 := st.len2
  have hle := st.len
  obtain ⟨i, hav, hil⟩ := and65W a os.length hpos
  have hnz : ¬ (os.length : Int) = 0 := by omega
  have hnz2 : ((os.length : Int) == 0) = false := by rw [beq_eq_false_iff_ne]; omega
  have hnz3 : ¬ os.length = 0 := by omega
  obtain ⟨o, hwk, hol⟩ := st.tr.walk (i := i) (by rw [List.length_map]; exact hil) 1
  rw [List.length_map] at hol
  have hwi := wk_in st.tr (by rw [List.length_map]; exact hil) hwk
  rw [List.length_map] at hwi
  have st3 := st.below (W' := W2.alloc (.cells #[.slice (some ⟨g, 0, none⟩) os.length cv] 25)) ((Below.refl _ W2).alloc (Nat.le_refl _) _)
  have hb3 : Below W0.heap.size W0 (W2.alloc (.cells #[.slice (some ⟨g, 0, none⟩) os.length cv] 25)) := HB1.out.trans (st3.bw.mono HB1.out.size)
  have q8 : (W2.alloc (.cells #[.slice (some ⟨g, 0, none⟩) os.length cv] 25)).heap[W2.heap.size]? = some (.cells #[.slice (some ⟨g, 0, none⟩) os.length cv] 25 (0, 0)) := heap_alloc_new W2 _
  have hs2 : W0.heap.size ≤ W2.heap.size := Nat.le_trans HB1.out.size st.bw.size
  obtain ⟨B8, hB8⟩ : ∃ B8, W2.heap.size = B8 := ⟨_, rfl⟩
  rw [hB8] at q8 hs2
  have hs3 : (W2.alloc (.cells #[.slice (some ⟨g, 0, none⟩) os.length cv] 25)).heap.size = B8 + 1 := by rw [World.size_alloc, hB8]
  obtain ⟨W3, hW3⟩ : ∃ W3, W2.alloc (.cells #[.slice (some ⟨g, 0, none⟩) os.length cv] 25) = W3 := ⟨_, rfl⟩
  rw [hW3] at st3 hb3 q8 hs3
  have KL := list_any st.tr (by omega) o.length (i : Int) 1 o W3 rfl st3.own (by omega) (by omega) hwk (by omega) (by omega)
  rw [show ((1 : Nat) : Int) = 1 from rfl] at KL
  unfold LiPost at KL
  replace KL := Lib.hid KL
  have HST := Lib.hid st
  have HST3 := Lib.hid st3
  have HB3 := Lib.hid hb3
  have Q8 := Lib.hid q8
  have HWK := Lib.hid hwk
  have HWI := Lib.hid hwi
  have HS3 := Lib.hid hs3
  have HW3 := Lib.hid hW3
  clear st KP st3 hb3 q8 hwk hwi hs3 hW3
  go_wp2_with fail
  rw [HW3.out]
  refine KL.out.mono ?_
  rintro e W4 ⟨v1, v2, rfl, r1, r2, hb4⟩
  obtain ⟨A1, c1, hv1, hl1, _, _⟩ := row_form r1
  obtain ⟨A2, c2, hv2, hl2', _, _⟩ := row_form r2
  subst hv1 hv2
  have R1 := Lib.hid r1
  have R2 := Lib.hid r2
  have HB4 := Lib.hid hb4
  have HE := Lib.hid hB8
  clear r1 r2 hb4 hl1 hl2' KL HW3 hB8
  go_wp2_with fail
  obtain ⟨W7, hW7⟩ : ∃ W7, (((((((W4.alloc (.cells #[.slice A1 o.length c1] 30)).alloc (.cells #[.slice A2 o.length c2] 30)).alloc (.cells #[.int .i64 0] 3)).alloc (.cells #[.int .i64 0] 3)).alloc (.cells #[.string ⟨#[]⟩] 9)).alloc (.cells #[] 3)).alloc (.cells #[.slice (some ⟨W4.heap.size + 5, 0, none⟩) 0 0] 30)) = W7 := ⟨_, rfl⟩
  obtain ⟨s7, s9, b9, m0, m1, m2, m3, m4, m6, m7, m8, mr⟩ := nine_mem W4 W7 _ _ _ _ _ _ (.cells #[.pointer (some ⟨D, 0, none⟩)] 24) (.cells #[.int .i64 i] 3) hW7
  have KW := Lib.hid (walk_any D (i : Int) W7)
  rw [s7] at KW
  rw [show W4.heap.size + 1 + 1 + 1 + 1 + 1 = W4.heap.size + 5 by omega, hW7]
  obtain ⟨W5, hW5⟩ : ∃ W5, (W7.alloc (.cells #[.pointer (some ⟨D, 0, none⟩)] 24)).alloc (.cells #[.int .i64 i] 3) = W5 := ⟨_, rfl⟩
  rw [hW5] at s9 b9 m0 m1 m2 m3 m4 m6 m7 m8 mr
  rw [hW5] at KW
  clear hW7 hW5 s7
  refine KW.out.mono ?_
  rintro e w5 ⟨rfl, hw5⟩
  rw [hw5]
  clear hw5 w5
  have hz4 := HB4.out.size
  have hs3 := HS3.out
  have st5 := (HST3.out.below HB4.out).below b9
  have hLW : LW W1.heap.size W3.heap.size D v ns (.slice (some ⟨g, 0, none⟩) os.length cv) os w.heap.size B8 W4.heap.size stop (.slice A1 o.length c1) (.slice A2 o.length c2) o W5 := by
    have b05 : Below W0.heap.size W0 W5 := HB3.out.trans ((HB4.out.trans (b9.mono hz4)).mono HB3.out.size)
    have hs0 := HS0.out
    exact ⟨st5.doc, st5.own, (b05.block _ (by omega)).trans Q5.out, (b05.block _ (by omega)).trans Q6.out, ((HB4.out.trans (b9.mono hz4)).block _ (by omega)).trans Q8.out, m0, m1, own_keep R1.out b9, own_keep R2.out b9,
      fun k hk => by have := (HST3.out.doc.in_ k hk).2; omega, fun k hk => by have := (HST3.out.own.in_ k hk).2; omega, by omega, by omega, fun k e => (R1.out.lt k e).2, fun k e => (R2.out.lt k e).2⟩
  have hLI : LI W4.heap.size W5 0 0 ⟨#[]⟩ [] W5 := ⟨Frm.refl _ _, m2, m3, m4, _, m6, mr, fun g e => by simp [Value.ownBlock] at e; omega⟩
  have hvis := HWK.out
  rw [← HST.out.eq] at hvis
  have hvis := hvis.vis (by rw [HST.out.eq]; exact HST.out.tr) (fun c hc => by
    obtain ⟨x, hx⟩ : ∃ x, (ns.map Nd.pl)[i]? = some x := ⟨_, List.getElem?_eq_getElem (by rw [List.length_map]; omega)⟩
    obtain ⟨_, _, _, _, h4, _⟩ := (show Tr (ns.map Nd.pl) by rw [HST.out.eq]; exact HST.out.tr).ch hx
    have := h4 c hc
    rw [List.length_map] at this
    exact ⟨this.1, this.2.1⟩) ns.length (by omega)
  rw [← ch_pl (show Tr (ns.map Nd.pl) by rw [HST.out.eq]; exact HST.out.tr) (by omega) (by omega)] at hvis
  have hb5 : Below w.heap.size w W5 := HB0.out.trans ((HB3.out.trans ((HB4.out.trans (b9.mono hz4)).mono HB3.out.size)).mono HB0.out.size)
  have hSE := iterW_t 8 (by omega) (i : Int) o _ true hvis (by omega) W5 (Bd := W4.heap.size + 7) (Bn := W4.heap.size + 8) ⟨m7, hLW.doc⟩ m8
  obtain ⟨E, hE⟩ : ∃ E, W4.heap.size = E := ⟨_, rfl⟩
  rw [hE] at hLW hLI hSE s9 KW ⊢
  rw [show E + 1 + 1 + 1 + 1 = E + 4 from rfl, show E + 1 + 1 + 1 = E + 3 from rfl, show E + 1 + 1 = E + 2 from rfl, show E + 5 + 1 = E + 6 from rfl, show E + 7 + 1 = E + 8 from rfl]
  have HLW := Lib.hid hLW
  have HLI := Lib.hid hLI
  have HSE := Lib.hid hSE
  have HVS := Lib.hid hvis
  have HB5 := Lib.hid hb5
  have HS9 := Lib.hid s9
  have hdat : ∀ x ∈ ns, x.data.size ≤ 50 * 60 := HST.out.data
  have HDA := Lib.hid hdat
  have HEQ := Lib.hid HST.out.eq
  have HP0 := Lib.hid (show w.heap.size + 2 ≤ W1.heap.size by have h1 := HS0.out; have h2 := HB1.out.size; omega)
  have HRST := Lib.hid HST.out.rst
  clear hLW hLI hSE hvis hb5 s9 hE m0 m1 m2 m3 m4 m6 m7 m8 mr st5 b9 hz4 hs3 R1 R2 HB4 HB3 HB1 HB0 HS3 HS0 HST HST3 HWK KW hs2 hdat Q5 Q6 Q8 HE HO hav
  go_wp2
  refine (wpIn_wide (n := 9)).1 ?_
  refine range_T rfl (enters_of Try.func46 (by kernel_rfl) rfl) HSE.out KpW.tr KpW.put (fun _ => rfl)
    (fun pre W => LI E W5 pre.length (maxD pre) ⟨(txts ns pre).toArray⟩ (fnd ns ⟨#[112]⟩ pre) W) ?hI HLI.out ?a1 ?assign ?body ?done
  case hI =>
    rintro s X Y row h hg hr
    exact h.keep HS9.out (S := fun k => row = some k) (Frm.grown hg (fun k e => e)) (fun k e => by have := hr k e; have := HS9.out; omega)
  case assign =>
    intro l2 x W K hK
    gi_wp2
    exact hK
  case body =>
    rintro l2 pre ⟨k, d⟩ W hI hpx hsz
    have hsz14 : E + 14 ≤ W.heap.size := by have := HS9.out; omega
    obtain ⟨hlt, hk1, hk2, hmem⟩ := pre_at hpx
    obtain ⟨k0, k1⟩ := HWI.out _ hmem
    obtain ⟨q, rfl⟩ : ∃ q : Nat, k = q := ⟨k.toNat, by simp only at k0; omega⟩
    have hql : q < os.length := by simp only at k1; omega
    obtain ⟨x, hx⟩ : ∃ x, os[q]? = some x := ⟨_, List.getElem?_eq_getElem hql⟩
    obtain ⟨y, hy⟩ : ∃ y, ns[q]? = some y := ⟨_, List.getElem?_eq_getElem (by omega)⟩
    have hxy : y.pl = x.pl := by
      have h1 := congrArg (fun l : List Pl => l[q]?) HEQ.out
      simp only [List.getElem?_map, hx, hy, Option.map_some, Option.some.injEq] at h1
      exact h1
    have hsp : y.space = 0 := congrArg Prod.fst (HRST.out _ (List.mem_map_of_mem (List.mem_of_getElem? hy)))
    have hys := HDA.out y (List.mem_of_getElem? hy)
    have hlw := HLW.out.keep hI.fr (fun k e => by unfold SW at e; omega)
    have c8 : W.cell? ⟨B8, 0, none⟩ = some (.slice (some ⟨g, 0, none⟩) os.length cv) := by rw [cell_of_row _ _ _ _ _ _ hlw.b8]; rfl
    have c10 : W.cell? ⟨E, 0, none⟩ = some (.slice A1 o.length c1) := by rw [cell_of_row _ _ _ _ _ _ hlw.b10]; rfl
    have c11 : W.cell? ⟨E + 1, 0, none⟩ = some (.slice A2 o.length c2) := by rw [cell_of_row _ _ _ _ _ _ hlw.b11]; rfl
    have c12 : W.cell? ⟨E + 2, 0, none⟩ = some (.int .i64 pre.length) := by rw [cell_of_row _ _ _ _ _ _ hI.b12]; rfl
    have c13 : W.cell? ⟨E + 3, 0, none⟩ = some (.int .i64 (maxD pre)) := by rw [cell_of_row _ _ _ _ _ _ hI.b13]; rfl
    have c14 : W.cell? ⟨E + 4, 0, none⟩ = some (.string ⟨(txts ns pre).toArray⟩) := by rw [cell_of_row _ _ _ _ _ _ hI.b14]; rfl
    have f12 : W.frozen? ⟨E + 2, 0, none⟩ = false := by simp [World.frozen?, hI.b12]
    have f13 : W.frozen? ⟨E + 3, 0, none⟩ = false := by simp [World.frozen?, hI.b13]
    have f14 : W.frozen? ⟨E + 4, 0, none⟩ = false := by simp [World.frozen?, hI.b14]
    obtain ⟨b1, o1, hA1, hb1, hcq1⟩ := (row_rd hlw.r1).pos (by rw [fsts_len]; omega)
    obtain ⟨b2, o2, hA2, hb2, hcq2⟩ := (row_rd hlw.r2).pos (by rw [snds_len]; omega)
    subst hA1 hA2
    have ck1 : W.cell? ⟨b1, o1 + pre.length, none⟩ = some (.int .i64 q) := by
      have h1 := hcq1 pre.length (by rw [fsts_len]; omega)
      rw [hk1] at h1
      exact h1
    have ck2 : W.cell? ⟨b2, o2 + pre.length, none⟩ = some (.int .i64 d) := by
      have h1 := hcq2 pre.length (by rw [snds_len]; omega)
      rw [hk2] at h1
      exact h1
    obtain ⟨kz, hkz⟩ : ∃ kz, x.pl.kind = kz := ⟨_, rfl⟩
    obtain ⟨nm, hnm⟩ : ∃ nm, x.pl.name = nm := ⟨_, rfl⟩
    obtain ⟨dt, hdt⟩ : ∃ dt, x.pl.data = dt := ⟨_, rfl⟩
    have q0 : W.cell? ⟨g, q * 6, none⟩ = some (.int .i64 kz) := by have h1 := hlw.own.cell hx (show 0 < 6 by omega); rw [Nat.add_zero] at h1; rw [h1, ← hkz]; rfl
    have q1 : W.cell? ⟨g, q * 6 + 1, none⟩ = some (.string nm) := by rw [hlw.own.cell hx (show 1 < 6 by omega), ← hnm]; rfl
    have q2 : W.cell? ⟨g, q * 6 + 2, none⟩ = some (.string dt) := by rw [hlw.own.cell hx (show 2 < 6 by omega), ← hdt]; rfl
    have hge : decide ((o.length : Int) ≤ (pre.length : Int)) = false := decide_eq_false (by omega)
    have hgQ : (q : Int) * 6 = ((q * 6 : Nat) : Int) := by omega
    have hgE : g ≠ E + 3 ∧ g ≠ E + 4 ∧ B8 ≠ E + 3 ∧ B8 ≠ E + 4 := by
      have h1 := HLW.out.olt g (.inl rfl)
      have h2 := HLW.out.blt
      omega
    obtain ⟨n1, n2, n3, n4⟩ := hgE
    have yk : y.kind = kz := by rw [← hkz, ← hxy]; rfl
    have yn : y.name = nm := by rw [← hnm, ← hxy]; rfl
    have yd : y.data = dt := by rw [← hdt, ← hxy]; rfl
    have htx : txts ns (pre ++ [((q : Int), d)]) = txts ns pre ++ (if kz == 3 then dt.data.toList else []) := by
      unfold txts
      rw [List.flatMap_append]
      congr 1
      show txtN ns (q : Int) ++ [] = _
      unfold txtN
      rw [atN_some hy, atN_some hy, yk, yd, List.append_nil]
    have hfn := fnd_snoc (ns := ns) (name := ⟨#[112]⟩) pre (q : Int) d
    have hisn : isN ns (q : Int) [⟨#[112]⟩] = (kz == 2 && sm ⟨#[112]⟩ nm) := by
      unfold isN
      rw [atN_some hy, yk, hsp, yn]
      simp [amg]
    rw [hisn] at hfn
    have hmx := maxD_snoc pre ((q : Int), d)
    have htl := txts_len (ns := ns) (fun z hz => by have := HDA.out z hz; omega) pre
    have HI := Lib.hid hI
    have HLWW := Lib.hid hlw
    have HTX := Lib.hid htx
    have HFN := Lib.hid hfn
    have HMX := Lib.hid hmx
    have hds : dt.size ≤ 3000 := by rw [← yd]; omega
    have hpl : pre.length ≤ 1000 := by omega
    clear hI hlw htx hfn hmx hsp hys hcq1 hcq2 hk1 hk2 hmem k0 k1 hpx hkz hnm hdt yk yn yd hisn hx hy hxy HLI HSE HVS HLW
    have hmaxI : max ((maxD pre : Nat) : Int) (d : Int) = ((max (maxD pre) d : Nat) : Int) := by omega
    have hlenI : ((pre.length : Nat) : Int) + 1 = ((pre.length + 1 : Nat) : Int) := by omega
    have HLN : Hid ((pre ++ [((q : Int), d)]).length = pre.length + 1) := Lib.hid (by simp)
    have F3 : Hid (∀ u, Frm (SW E) W (W.setCell ⟨E + 3, 0, none⟩ u)) := Lib.hid (fun u => Frm.set _ (.inl (by show E + 2 ≤ E + 3 ∧ E + 3 ≤ E + 6; omega)))
    have F2 : Hid (∀ (X : World) u, Frm (SW E) X (X.setCell ⟨E + 2, 0, none⟩ u)) := Lib.hid (fun X u => Frm.set _ (.inl (by show E + 2 ≤ E + 2 ∧ E + 2 ≤ E + 6; omega)))
    have F4 : Hid (∀ (X : World) u, Frm (SW E) X (X.setCell ⟨E + 4, 0, none⟩ u)) := Lib.hid (fun X u => Frm.set _ (.inl (by show E + 2 ≤ E + 4 ∧ E + 4 ≤ E + 6; omega)))
    have HFIN : Hid (∀ (av : Act) W', Frm (SW E) W W' → LI E W5 (pre.length + 1) (max (maxD pre) d) ⟨(txts ns (pre ++ [((q : Int), d)])).toArray⟩ (fnd ns ⟨#[112]⟩ (pre ++ [((q : Int), d)])) W' →
        postT W5.heap.size (KpW (E + 7) W1.heap.size D v false ns (W5.heap.size + 2)) (fun pre W => LI E W5 pre.length (maxD pre) ⟨(txts ns pre).toArray⟩ (fnd ns ⟨#[112]⟩ pre) W) (pre ++ [((q : Int), d)]) W .normal av W') := Lib.hid (fun av W' hf hI' => by
      obtain ⟨t1, t2⟩ := LI.post HLWW.out hsz14 hf
      rw [← HS9.out] at t1 t2
      refine ⟨t1, t2, ?_⟩
      show LI E W5 (pre ++ [((q : Int), d)]).length (maxD (pre ++ [((q : Int), d)])) _ _ W'
      rw [HLN.out, HMX.out]
      exact hI')
    by_cases h3 : kz = 3
    · subst h3
      have hsz2 : ¬ 9223372036854775807 < (⟨(txts ns pre).toArray⟩ : ByteArray).size + dt.size := by
        show ¬ 9223372036854775807 < (txts ns pre).toArray.size + dt.size
        rw [List.size_toArray]
        omega
      have HA : Hid (∀ (av : Act) (z z2 : Int) (u : ByteArray), z = ((max (maxD pre) d : Nat) : Int) → z2 = ((pre.length + 1 : Nat) : Int) → u = (⟨(txts ns pre).toArray⟩ : ByteArray) ++ dt →
          postT W5.heap.size (KpW (E + 7) W1.heap.size D v false ns (W5.heap.size + 2)) (fun pre W => LI E W5 pre.length (maxD pre) ⟨(txts ns pre).toArray⟩ (fnd ns ⟨#[112]⟩ pre) W) (pre ++ [((q : Int), d)]) W .normal av ((((W.setCell ⟨E + 3, 0, none⟩ (.int .i64 z)).setCell ⟨E + 4, 0, none⟩ (.string u)).drew).setCell ⟨E + 2, 0, none⟩ (.int .i64 z2))) := Lib.hid (fun av z z2 u hz hz2 hu => by
        subst hz hz2
        refine HFIN.out av _ ((((F3.out _).trans (F4.out _ _)).trans (Frm.below (Below.refl _ _).drew)).trans (F2.out _ _)) ?_
        have hu2 : u = ⟨(txts ns (pre ++ [((q : Int), d)])).toArray⟩ := by
          rw [hu, HTX.out]
          refine ByteArray.ext ?_
          simp
        rw [HFN.out, ← hu2]
        exact (((HI.out.max _).words u).drew).step _)
      clear HFIN HI HTX HFN HMX F2 F3 F4 HLN hlenI
      gi_wp2
      gi_region
      all_goals
        gi_wp2
        exact HA.out _ _ _ _ (by omega) (by omega) rfl
    · have d3 : (kz == 3) = false := by rw [beq_eq_false_iff_ne]; exact h3
      rw [d3, if_neg (by decide), List.append_nil] at HTX
      have plain : (kz == 2 && sm ⟨#[112]⟩ nm) = false → Hid (∀ (av : Act) (z z2 : Int), z = ((max (maxD pre) d : Nat) : Int) → z2 = ((pre.length + 1 : Nat) : Int) → postT W5.heap.size (KpW (E + 7) W1.heap.size D v false ns (W5.heap.size + 2)) (fun pre W => LI E W5 pre.length (maxD pre) ⟨(txts ns pre).toArray⟩ (fnd ns ⟨#[112]⟩ pre) W) (pre ++ [((q : Int), d)]) W   .normal av ((W.setCell ⟨E + 3, 0, none⟩ (.int .i64 z)).setCell ⟨E + 2, 0, none⟩ (.int .i64 z2))) := fun hb => Lib.hid (fun av z z2 hz hz2 => by
        subst hz hz2
        refine HFIN.out av _ ((F3.out _).trans (F2.out _ _)) ?_
        rw [HTX.out, HFN.out, hb, if_neg (by decide)]
        exact (HI.out.max _).step _)
      by_cases h2 : kz = 2
      · subst h2
        cases hs : sm ⟨#[112]⟩ nm with
        | true =>
          rw [hs] at HFN
          have hnm := sm_iff.1 hs
          subst hnm
          clear hs
          obtain ⟨NM, hNM⟩ : ∃ NM, fnd ns ⟨#[112]⟩ pre = NM := ⟨_, rfl⟩
          have hnl : NM.length ≤ 1000 := by rw [← hNM]; have := fnd_le (ns := ns) (name := ⟨#[112]⟩) pre; omega
          have hi := HI.out
          rw [hNM] at hi HFN
          obtain ⟨vn, p1, p2, p3⟩ := hi.b15
          obtain ⟨B9, z9, hvn⟩ := own_slice p2
          subst hvn
          obtain ⟨M, hM⟩ : ∃ M, max (maxD pre) d = M := ⟨_, rfl⟩
          rw [hM] at hmaxI HFIN
          have hx := hi.max M
          have c15 : W.cell? ⟨E + 6, 0, none⟩ = some (.slice B9 NM.length z9) := by rw [cell_of_row _ _ _ _ _ _ p1]; rfl
          have rX := (hi.box (j := E + 3) (u := .int .i64 M) (by omega)).2.2 _ p2 p3
          obtain ⟨X, hX⟩ : ∃ X, W.setCell ⟨E + 3, 0, none⟩ (.int .i64 M) = X := ⟨_, rfl⟩
          have hF3 := F3.out (.int .i64 M)
          rw [hX] at hx rX hF3
          have hszX : X.heap.size = W.heap.size := by rw [← hX]; simp [World.setCell]
          have hfacts : ∀ (v9 : Value) (w9 : World), (X.alloc (.cells #[.int .i64 q] 3)).grownBy w9 (Value.slice B9 NM.length z9).ownBlock → (v9.ownBlock = (Value.slice B9 NM.length z9).ownBlock ∨ v9.ownBlock = some (X.alloc (.cells #[.int .i64 q] 3)).heap.size) → w9.ownsRow (E + 5) 3 1 v9 (NM ++ [(q : Int)]).length ((NM ++ [(q : Int)]).map (Value.int .i64)) →
              (w9.cell? ⟨E + 2, 0, none⟩ = some (.int .i64 pre.length) ∧ w9.frozen? ⟨E + 2, 0, none⟩ = false ∧ w9.frozen? ⟨E + 6, 0, none⟩ = false ∧ ∃ u, w9.cell? ⟨E + 6, 0, none⟩ = some u) ∧ ∀ (av : Act) (z2 : Int), z2 = ((pre.length + 1 : Nat) : Int) →
              postT W5.heap.size (KpW (E + 7) W1.heap.size D v false ns (W5.heap.size + 2)) (fun pre W => LI E W5 pre.length (maxD pre) ⟨(txts ns pre).toArray⟩ (fnd ns ⟨#[112]⟩ pre) W) (pre ++ [((q : Int), d)]) W .normal av ((w9.setCell ⟨E + 6, 0, none⟩ v9).setCell ⟨E + 2, 0, none⟩ (.int .i64 z2)) := by
            intro v9 w9 hg9 hl9 ho9
            have hba : Below X.heap.size X (X.alloc (.cells #[.int .i64 q] 3)) := (Below.refl _ X).alloc (Nat.le_refl _) _
            have hf9 : Frm (fun k => k = E + 5 ∨ E + 14 ≤ k) (X.alloc (.cells #[.int .i64 q] 3)) w9 := Frm.grown hg9 (fun k e => p3 k e)
            have lift : ∀ {k : Nat} {y : Obj}, k < E + 14 → k ≠ E + 5 → X.heap[k]? = some y → w9.heap[k]? = some y := fun h1 h2 hy => (hf9.block _ (by rw [World.size_alloc]; omega) (by omega)).trans ((hba.block _ (by omega)).trans hy)
            have e12 := lift (by omega) (by omega) hx.b12
            obtain ⟨vn0, y1, _, _⟩ := hx.b15
            have e15 := lift (by omega) (by omega) y1
            refine ⟨⟨by rw [cell_of_row _ _ _ _ _ _ e12]; rfl, by simp [World.frozen?, e12], by simp [World.frozen?, e15], vn0, by rw [cell_of_row _ _ _ _ _ _ e15]; rfl⟩, fun av z2 hz2 => ?_⟩
            subst hz2
            refine HFIN.out av _ ((((hF3.trans (Frm.below hba)).trans (hf9.mono (fun k e => ?_))).trans (Frm.set _ (.inl (by show E + 2 ≤ E + 6 ∧ E + 6 ≤ E + 6; omega)))).trans (F2.out _ _)) ?_
            · rcases e with e | e
              · exact .inl (by omega)
              · exact .inr e
            · rw [HTX.out, HFN.out, if_pos (show ((2 : Int) == 2 && true) = true by decide)]
              exact (hx.named (by omega) p3 hba hg9 hl9 ho9).step _
          have HX := Lib.hid hX
          have HRX := Lib.hid rX
          have HFA := Lib.hid hfacts
          have hzx : E + 14 ≤ X.heap.size := by omega
          have HRD1 : Hid (Rd (X.alloc (.cells #[.int .i64 q] 3)) .i64 (some ⟨W.heap.size, 0, none⟩) [(q : Int)]) := Lib.hid (by rw [← hszX]; exact rd_oneL X (q : Int))
          clear hi hx rX hF3 hfacts HFIN HI HTX HFN HMX F2 F3 F4 HLN p1 p2 p3 hNM hX plain hlenI hM
          gi_wp2_with (gi_at_builtin; (try rw [HX.out]); refine wpListIn_append_rdI rfl rfl (E + 5) (.slice B9 NM.length z9) NM rfl (own_keep HRX.out ((Below.refl _ X).alloc (Nat.le_refl _) _)) ⟨W.heap.size, 0, none⟩ 1 1 rfl [(q : Int)] rfl HRD1.out (by omega) (by rw [World.size_alloc]; omega) ?_; intro v9 w9 ho9 hg9 hl9; obtain ⟨G9, k9, hv9⟩ := own_slice ho9; obtain ⟨n9, hn9⟩ : ∃ n9, (NM ++ [(q : Int)]).length = n9 := ⟨_, rfl⟩; rw [hn9] at hv9; subst hv9; clear hn9; obtain ⟨⟨y1, y2, y3, u9, y4⟩, hfin⟩ := HFA.out _ w9 hg9 hl9 ho9; have HFI := Lib.hid hfin; clear ho9 hg9 hl9 hfin)
          exact HFI.out _ _ (by omega)
        | false =>
          have hs2 : (nm.toList == [112]) = false := by
            have h : (nm.toList == ByteArray.toList ⟨#[112]⟩) = false := by rw [sm_comm] at hs; exact hs
            rw [show ByteArray.toList ⟨#[112]⟩ = [112] by decide +kernel] at h
            exact h
          have PL := plain (by rw [hs]; rfl)
          clear plain hlenI hs
          gi_wp2
          exact PL.out _ _ _ (by omega) (by omega)
      · have d2 : (kz == 2) = false := by rw [beq_eq_false_iff_ne]; exact h2
        have PL := plain (by rw [d2]; rfl)
        clear h2 h3 plain hlenI
        gi_wp2
        exact PL.out _ _ _ (by omega) (by omega)
  case done =>
    rintro D2 W hD hI hK
    have hD9 : D2 = E + 9 := by rw [hD, HS9.out]
    have hlw := HLW.out.keep hI.fr (fun k e => by unfold SW at e; omega)
    have c5 : W.cell? ⟨w.heap.size, 0, none⟩ = some (.int .i64 stop) := by rw [cell_of_row _ _ _ _ _ _ hlw.b5]; rfl
    have f5 : W.frozen? ⟨w.heap.size, 0, none⟩ = false := by simp [World.frozen?, hlw.b5]
    have c6 : W.cell? ⟨w.heap.size + 1, 0, none⟩ = some (.bool false) := by rw [cell_of_row _ _ _ _ _ _ hlw.b6]; rfl
    have f6 : W.frozen? ⟨w.heap.size + 1, 0, none⟩ = false := by simp [World.frozen?, hlw.b6]
    have c10 : W.cell? ⟨E, 0, none⟩ = some (.slice A1 o.length c1) := by rw [cell_of_row _ _ _ _ _ _ hlw.b10]; rfl
    have c12 : W.cell? ⟨E + 2, 0, none⟩ = some (.int .i64 o.length) := by rw [cell_of_row _ _ _ _ _ _ hI.b12]; rfl
    have f12 : W.frozen? ⟨E + 2, 0, none⟩ = false := by simp [World.frozen?, hI.b12]
    have c13 : W.cell? ⟨E + 3, 0, none⟩ = some (.int .i64 (maxD o)) := by rw [cell_of_row _ _ _ _ _ _ hI.b13]; rfl
    have c14 : W.cell? ⟨E + 4, 0, none⟩ = some (.string ⟨(txts ns o).toArray⟩) := by rw [cell_of_row _ _ _ _ _ _ hI.b14]; rfl
    have dlen : ((o.length : Int) != (o.length : Int)) = false := by simp
    have KD := Lib.hid (deep_any (i : Int) W hlw.doc (by omega) o _ true HVS.out)
    have KWd := Lib.hid (fun (W' : World) (hd : DocM W1.heap.size D v false ns W') => words_any (i : Int) W' hd (by omega) (fun z hz => by have := HDA.out z hz; omega) o _ true HVS.out)
    have HI := Lib.hid hI
    have HLWW := Lib.hid hlw
    have HK := Lib.hid hK
    clear hI hlw hK HLI HSE HLW hD
    have hzW : E + 9 ≤ W.heap.size := by have := HI.out.fr.size; have := HS9.out; omega
    have KD := Lib.hid (fun (W' : World) (hd : DocM W1.heap.size D v false ns W') => deep_any (i : Int) W' hd (by omega) o _ true HVS.out)
    go_wp2_with fail
    go_region_held3 (fun w' => w'.cell? ⟨E + 2, 0, none⟩ = some (.int .i64 o.length) ∧ w'.cell? ⟨E, 0, none⟩ = some (.slice A1 o.length c1) ∧ w'.cell? ⟨E + 3, 0, none⟩ = some (.int .i64 (maxD o)) ∧ w'.cell? ⟨E + 4, 0, none⟩ = some (.string ⟨(txts ns o).toArray⟩))
      (first | exact ⟨c12, c10, c13, c14⟩ | exact ⟨j0, j1, j2, j3⟩ | exact ⟨k0, k1, k2, k3⟩ | go_keep)
      (first
        | (go_at_call 18; refine (KD.out _ (HLWW.out.doc.below (Below.refl _ W).drew)).mono ?_; rintro e w2 ⟨rfl, hb2d⟩; have hb2 : Below W.heap.size W w2 := (Below.refl _ W).drew.trans hb2d; have j0 := (hb2.cell (p := ⟨E + 2, 0, none⟩) (show E + 2 < _ by omega)).trans c12; have j1 := (hb2.cell (p := ⟨E, 0, none⟩) (show E < _ by omega)).trans c10; have j2 := (hb2.cell (p := ⟨E + 3, 0, none⟩) (show E + 3 < _ by omega)).trans c13; have j3 := (hb2.cell (p := ⟨E + 4, 0, none⟩) (show E + 4 < _ by omega)).trans c14; have KW2 := KWd.out w2 (HLWW.out.doc.below hb2); have hs2 := hb2.size)
        | (go_at_call 19; refine KW2.mono ?_; rintro e w3 ⟨rfl, hb3⟩; have k0 := (hb3.cell (p := ⟨E + 2, 0, none⟩) (show E + 2 < _ by omega)).trans j0; have k1 := (hb3.cell (p := ⟨E, 0, none⟩) (show E < _ by omega)).trans j1; have k2 := (hb3.cell (p := ⟨E + 3, 0, none⟩) (show E + 3 < _ by omega)).trans j2; have k3 := (hb3.cell (p := ⟨E + 4, 0, none⟩) (show E + 4 < _ by omega)).trans j3))
    have hb23 : Below W.heap.size W w3 := hb2.trans (hb3.mono hs2)
    have hs3w : W.heap.size ≤ w3.heap.size := hb23.size
    have hlw3 := HLWW.out.keep (S := fun _ => False) (Frm.below hb23) (fun _ e => e.elim)
    obtain ⟨vn, p1, p2, p3⟩ := HI.out.b15
    obtain ⟨NM, hNM⟩ : ∃ NM, fnd ns ⟨#[112]⟩ o = NM := ⟨_, rfl⟩
    rw [hNM] at p2
    have hnl : NM.length ≤ o.length := by rw [← hNM]; exact fnd_le o
    obtain ⟨B9, z9, hvn⟩ := own_slice p2
    subst hvn
    have e15 : w3.heap[E + 6]? = some (.cells #[.slice B9 NM.length z9] 30 (0, 0)) := (hb23.block _ (by omega)).trans p1
    have r15 := own_keep p2 hb23
    have hg15 : ∀ g, (Value.slice B9 NM.length z9).ownBlock = some g → g ≠ E + 2 ∧ g < w3.heap.size := fun k e => ⟨by have := p3 k e; omega, by have := (p2.lt k e).2; omega⟩
    have e12 : w3.heap[E + 2]? = some (.cells #[.int .i64 o.length] 3 (0, 0)) := (hb23.block _ (by omega)).trans HI.out.b12
    have ed2 : w3.heap[D2]? = some (.deferred (some [])) := (hb23.block _ (by have := (Array.getElem?_eq_some_iff.1 HK.out).1; omega)).trans HK.out
    have hb03 : Below w.heap.size w w3 := HB5.out.trans ((HI.out.fr.toBelow (n := w.heap.size) (by have := HB5.out.size; omega) (fun k e => by have := HLWW.out.plt; unfold SW at e; omega)).trans (hb23.mono (by have := HLWW.out.plt; omega)))
    have f12w : w3.frozen? ⟨E + 2, 0, none⟩ = false := by simp [World.frozen?, e12]
    have hz3 : E + 9 ≤ w3.heap.size := by omega
    obtain ⟨Y, hY⟩ : ∃ Y, w3.setCell ⟨E + 2, 0, none⟩ (.int .i64 0) = Y := ⟨_, rfl⟩
    have hfY : Frm (fun k => k = E + 2) w3 Y := by rw [← hY]; exact Frm.set _ rfl
    have y12 : Y.heap[E + 2]? = some (.cells #[.int .i64 0] 3 (0, 0)) := by rw [← hY]; exact heap_setCell_same _ _ 0 _ _ _ e12
    have yL := hlw3.keep hfY (fun k e => by omega)
    have y15 : Y.heap[E + 6]? = some (.cells #[.slice B9 NM.length z9] 30 (0, 0)) := (hfY.block _ (by omega) (by omega)).trans e15
    have yr := hfY.own r15 (fun k e1 e2 => (hg15 k e1).1 e2)
    have yd : Y.heap[D2]? = some (.deferred (some [])) := (hfY.block _ (by have := (Array.getElem?_eq_some_iff.1 ed2).1; omega) (by omega)).trans ed2
    have ysz : Y.heap.size = w3.heap.size := by rw [← hY]; simp [World.setCell]
    have yb : Below w.heap.size w Y := hb03.trans (hfY.toBelow hb03.size (fun k e => by have := HLWW.out.plt; omega))
    have KF := Lib.hid (find_any D (i : Int) ⟨#[112]⟩ Y)
    obtain ⟨Z, hZ⟩ : ∃ Z, ((Y.alloc (.cells #[.pointer (some ⟨D, 0, none⟩)] 24)).alloc (.cells #[.int .i64 i] 3)).alloc (.cells #[.string ⟨#[112]⟩] 9) = Z := ⟨_, rfl⟩
    have hst : ∀ (V : World) (x : Obj), (V.alloc x).heap.size = V.heap.size + 1 := fun V x => by simp
    have hup : ∀ (V : World) (x : Obj) (n : Nat) (y : Obj), V.heap[n]? = some y → (V.alloc x).heap[n]? = some y := fun V x n y h => (Below.heap_alloc V x n (Array.getElem?_eq_some_iff.1 h).1).trans h
    have hnw : ∀ (V : World) (x : Obj) (n : Nat), V.heap.size = n → (V.alloc x).heap[n]? = some x := fun V x n h => by rw [← h]; exact heap_alloc_new V x
    have zsz : Z.heap.size = Y.heap.size + 3 := by rw [← hZ, hst, hst, hst]
    have zb : Below Y.heap.size Y Z := by rw [← hZ]; exact (((Below.refl _ Y).alloc (Nat.le_refl _) _).alloc (by simp only [hst]; omega) _).alloc (by simp only [hst]; omega) _
    have zd : Z.heap[Y.heap.size]? = some (.cells #[.pointer (some ⟨D, 0, none⟩)] 24 (0, 0)) := by rw [← hZ]; exact hup _ _ _ _ (hup _ _ _ _ (hnw _ _ _ rfl))
    have zn : Z.heap[Y.heap.size + 1]? = some (.cells #[.int .i64 i] 3 (0, 0)) := by rw [← hZ]; exact hup _ _ _ _ (hnw _ _ _ (hst _ _))
    have zm : Z.heap[Y.heap.size + 2]? = some (.cells #[.string ⟨#[112]⟩] 9 (0, 0)) := by rw [← hZ]; exact hnw _ _ _ (by rw [hst, hst])
    have zL := yL.keep (S := fun _ => False) (Frm.below zb) (fun _ e => e.elim)
    have z12 : Z.heap[E + 2]? = some (.cells #[.int .i64 0] 3 (0, 0)) := (zb.block _ (by omega)).trans y12
    have z15 : Z.heap[E + 6]? = some (.cells #[.slice B9 NM.length z9] 30 (0, 0)) := (zb.block _ (by omega)).trans y15
    have zr := own_keep yr zb
    have zdd : Z.heap[D2]? = some (.deferred (some [])) := (zb.block _ (by have := (Array.getElem?_eq_some_iff.1 yd).1; omega)).trans yd
    have hSF := findW_t (i : Int) o _ true HVS.out (by omega) Z (Bd := Y.heap.size) (Bn := Y.heap.size + 1) (Bm := Y.heap.size + 2) (name := ⟨#[112]⟩) ⟨zd, zm, zL.doc⟩ zn
    rw [hNM] at hSF
    have zbw : Below w.heap.size w Z := yb.trans (zb.mono yb.size)
    have HSF := Lib.hid hSF
    have HZL := Lib.hid zL
    have HZ12 := Lib.hid z12
    have HZ15 := Lib.hid z15
    have HZR := Lib.hid zr
    have HZD := Lib.hid zdd
    have HZB := Lib.hid zbw
    have HZS := Lib.hid (show Z.heap.size = w3.heap.size + 3 by omega)
    have HG15 := Lib.hid hg15
    have HY := Lib.hid hY
    have HZ := Lib.hid hZ
    have HYS := Lib.hid ysz
    clear hSF zL z12 z15 zr zdd zbw hg15 hst hup hnw zsz zb zd zn zm yb yd yr y15 yL y12 hfY hY hZ ysz hb03 ed2 e12 r15 e15 p1 p2 p3 hlw3 HI HLWW HK KWd KD KW2 j0 j1 j2 j3 k1 k2 k3 hb2 hb2d hb3 hb23 c12 c10 c13 c14 c5 f5 c6 f6 f12 hNM dlen
    go_wp2_with fail
    rw [HY.out]
    refine KF.out.mono ?_
    rintro e w5 ⟨rfl, hw5⟩
    rw [hw5, HZ.out]
    clear hw5 w5
    go_wp2_with fail
    refine (wpIn_wide (n := 9)).1 ?_
    refine range_T rfl (enters_of Try.func52 (by kernel_rfl) rfl) HSF.out KpF.tr KpF.put (fun _ => rfl)
      (fun pre W => Frm (SB (E + 2) Z.heap.size) Z W ∧ W.heap[E + 2]? = some (.cells #[.int .i64 pre.length] 3 (0, 0))) ?hI2 ⟨Frm.refl _ _, HZ12.out⟩ ?a2 ?assign2 ?body2 ?done2
    case hI2 =>
      rintro s X Y' row ⟨h1, h2⟩ hg hr
      exact sb_grow h1 h2 (by have := HZS.out; omega) hg (fun r e => (hr r e).1)
    case assign2 =>
      intro l2 x W' K hK
      gi_wp2
      exact hK
    case body2 =>
      rintro l2 pre k W' ⟨hf, h12⟩ hpx hsz
      obtain ⟨hlt, hk⟩ := pre_at1 hpx
      have hzs := HZS.out
      have hys := HYS.out
      have bl : ∀ {k : Nat} {x : Obj}, k ≠ E + 2 → Z.heap[k]? = some x → W'.heap[k]? = some x := fun hk hx => (hf.block _ (Array.getElem?_eq_some_iff.1 hx).1 (by have := (Array.getElem?_eq_some_iff.1 hx).1; unfold SB; omega)).trans hx
      have c12 : W'.cell? ⟨E + 2, 0, none⟩ = some (.int .i64 pre.length) := by rw [cell_of_row _ _ _ _ _ _ h12]; rfl
      have f12 : W'.frozen? ⟨E + 2, 0, none⟩ = false := by simp [World.frozen?, h12]
      have c15 : W'.cell? ⟨E + 6, 0, none⟩ = some (.slice B9 NM.length z9) := by rw [cell_of_row _ _ _ _ _ _ (bl (by omega) HZ15.out)]; rfl
      have rW := hf.own HZR.out (fun k e1 e2 => by have h1 := HG15.out k e1; unfold SB at e2; omega)
      obtain ⟨b9, o9, hB9, hb9, hcq⟩ := (row_rd rW).pos (by omega)
      subst hB9
      have ck := hcq pre.length hlt
      rw [hk] at ck
      have ck : W'.cell? ⟨b9, o9 + pre.length, none⟩ = some (.int .i64 k) := ck
      have hge : decide ((NM.length : Int) ≤ (pre.length : Int)) = false := decide_eq_false (by omega)
      have HPOST : Hid (∀ (av : Act) (z : Int), z = ((pre.length + 1 : Nat) : Int) → postT Z.heap.size (KpF Y.heap.size (Y.heap.size + 2) W1.heap.size D v false ns ⟨#[112]⟩ (Z.heap.size + 2)) (fun pre W => Frm (SB (E + 2) Z.heap.size) Z W ∧ W.heap[E + 2]? = some (.cells #[.int .i64 pre.length] 3 (0, 0))) (pre ++ [k]) W' .normal av (W'.setCell ⟨E + 2, 0, none⟩ (.int .i64 z))) := Lib.hid (fun av z hz => by
        subst hz
        obtain ⟨g1, g2, g3⟩ := sb_set (u := .int .i64 ((pre.length + 1 : Nat) : Int)) hf h12
        have hfs : Frm (fun k => k = E + 2) W' (W'.setCell ⟨E + 2, 0, none⟩ (.int .i64 ((pre.length + 1 : Nat) : Int))) := Frm.set _ rfl
        refine ⟨⟨g3 _ (by omega) (by omega), g3 _ (by omega) (by omega)⟩, ⟨hfs.size, fun k h1 h2 h3 => g3 k (by omega) h3, fun hs => hs.keep hfs (by omega) (by omega) (fun k hk e => by have := HZL.out.dlt k hk; omega)⟩, g1, ?_⟩
        rw [g2, List.length_append]
        rfl)
      have hpl : pre.length ≤ 1000 := by omega
      clear hf h12 bl rW hcq hk hpx hzs hys
      gi_wp2
      exact HPOST.out _ _ (by omega)
    case done2 =>
      rintro D3 W' hD3 ⟨hf, h12⟩ hK3
      have hzs := HZS.out
      have bl : ∀ {k : Nat} {x : Obj}, k ≠ E + 2 → Z.heap[k]? = some x → W'.heap[k]? = some x := fun hk hx => (hf.block _ (Array.getElem?_eq_some_iff.1 hx).1 (by have := (Array.getElem?_eq_some_iff.1 hx).1; unfold SB; omega)).trans hx
      have hp0 := HP0.out
      have hplt := HZL.out.plt
      have w5 := bl (by omega) HZL.out.b5
      have w6 := bl (by omega) HZL.out.b6
      have wd2 := bl (by omega) HZD.out
      have wsz : Z.heap.size ≤ W'.heap.size := hf.size
      have c12 : W'.cell? ⟨E + 2, 0, none⟩ = some (.int .i64 NM.length) := by rw [cell_of_row _ _ _ _ _ _ h12]; rfl
      have f12 : W'.frozen? ⟨E + 2, 0, none⟩ = false := by simp [World.frozen?, h12]
      have c15 : W'.cell? ⟨E + 6, 0, none⟩ = some (.slice B9 NM.length z9) := by rw [cell_of_row _ _ _ _ _ _ (bl (by omega) HZ15.out)]; rfl
      have c5 : W'.cell? ⟨w.heap.size, 0, none⟩ = some (.int .i64 stop) := by rw [cell_of_row _ _ _ _ _ _ w5]; rfl
      have f5 : W'.frozen? ⟨w.heap.size, 0, none⟩ = false := by simp [World.frozen?, w5]
      obtain ⟨S7, hS7⟩ : ∃ S7, bits BinOp.and IntKind.i64 stop 7 = S7 := ⟨_, rfl⟩
      have hS0 : 0 ≤ S7 ∧ S7 ≤ 7 := by
        rw [← hS7, show bits BinOp.and IntKind.i64 stop 7 = stop % 8 from i64_and_powL 3 stop 7 (by decide) (by decide)]
        omega
      obtain ⟨U, hU⟩ : ∃ U, W'.setCell ⟨w.heap.size, 0, none⟩ (.int .i64 S7) = U := ⟨_, rfl⟩
      have hfU : Frm (fun k => k = w.heap.size) W' U := by rw [← hU]; exact Frm.set _ rfl
      have u5 : U.heap[w.heap.size]? = some (.cells #[.int .i64 S7] 3 (0, 0)) := by rw [← hU]; exact heap_setCell_same _ _ 0 _ _ _ w5
      have u12 : U.heap[E + 2]? = some (.cells #[.int .i64 NM.length] 3 (0, 0)) := (hfU.block _ (Array.getElem?_eq_some_iff.1 h12).1 (by omega)).trans h12
      obtain ⟨V, hV⟩ : ∃ V, U.setCell ⟨E + 2, 0, none⟩ (.int .i64 0) = V := ⟨_, rfl⟩
      have hfV : Frm (fun k => k = E + 2) U V := by rw [← hV]; exact Frm.set _ rfl
      have hfUV : Frm (fun k => k = w.heap.size ∨ k = E + 2) W' V := (hfU.mono (fun k e => .inl e)).trans (hfV.mono (fun k e => .inr e))
      have v12 : V.heap[E + 2]? = some (.cells #[.int .i64 0] 3 (0, 0)) := by rw [← hV]; exact heap_setCell_same _ _ 0 _ _ _ u12
      have v5 : V.heap[w.heap.size]? = some (.cells #[.int .i64 S7] 3 (0, 0)) := (hfV.block _ (Array.getElem?_eq_some_iff.1 u5).1 (by omega)).trans u5
      have bv : ∀ {k : Nat} {x : Obj}, k ≠ w.heap.size → k ≠ E + 2 → W'.heap[k]? = some x → V.heap[k]? = some x := fun h1 h2 hx => (hfUV.block _ (Array.getElem?_eq_some_iff.1 hx).1 (by omega)).trans hx
      have v6 := bv (by omega) (by omega) w6
      have vd2 := bv (by omega) (by omega) wd2
      have vd3 := bv (by omega) (by omega) hK3
      have v10 := bv (by omega) (by omega) (bl (by omega) HZL.out.b10)
      have vdoc : DocM W1.heap.size D v false ns V := (HZL.out.doc.keep hf (fun k hk e => by have := HZL.out.dlt k hk; unfold SB at e; omega)).keep hfUV (fun k hk e => by have h1 := (HZL.out.doc.in_ k hk).1; have h2 := HZL.out.dlt k hk; omega)
      have vsz : V.heap.size = W'.heap.size := by rw [← hV, ← hU]; simp [World.setCell]
      have vb : Below w.heap.size w V := HZB.out.trans ((hf.toBelow HZB.out.size (fun k e => by unfold SB at e; omega)).trans (hfUV.toBelow (by omega) (fun k e => by omega)))
      have KW := Lib.hid (walk_any D (i : Int) V)
      obtain ⟨T, hT⟩ : ∃ T, (V.alloc (.cells #[.pointer (some ⟨D, 0, none⟩)] 24)).alloc (.cells #[.int .i64 i] 3) = T := ⟨_, rfl⟩
      have tsz : T.heap.size = V.heap.size + 2 := by rw [← hT]; simp
      have tb : Below V.heap.size V T := by rw [← hT]; exact ((Below.refl _ V).alloc (Nat.le_refl _) _).alloc (by simp) _
      have td : T.heap[V.heap.size]? = some (.cells #[.pointer (some ⟨D, 0, none⟩)] 24 (0, 0)) := by
        rw [← hT, Below.heap_alloc _ _ _ (by simp)]
        exact heap_alloc_new V _
      have tn : T.heap[V.heap.size + 1]? = some (.cells #[.int .i64 i] 3 (0, 0)) := by
        rw [← hT]
        have := heap_alloc_new (V.alloc (.cells #[.pointer (some ⟨D, 0, none⟩)] 24)) (.cells #[.int .i64 i] 3)
        simpa using this
      have bt : ∀ {k : Nat} {x : Obj}, V.heap[k]? = some x → T.heap[k]? = some x := fun hx => (tb.block _ (Array.getElem?_eq_some_iff.1 hx).1).trans hx
      have tdoc := vdoc.below tb
      have hSE := iterW_e 8 (by omega) (i : Int) o _ true HVS.out (by omega) T (Bd := V.heap.size) (Bn := V.heap.size + 1) ⟨td, tdoc⟩ tn
      have HSE := Lib.hid hSE
      have T12 := Lib.hid (bt v12)
      have T5 := Lib.hid (bt v5)
      have T6 := Lib.hid (bt v6)
      have T10 := Lib.hid (bt v10)
      have TD2 := Lib.hid (bt vd2)
      have TD3 := Lib.hid (bt vd3)
      have TDOC := Lib.hid tdoc
      have TB := Lib.hid (vb.trans (tb.mono (by have := HZB.out.size; omega)))
      have TSZ := Lib.hid (show T.heap.size = W'.heap.size + 2 ∧ V.heap.size = W'.heap.size ∧ Z.heap.size ≤ W'.heap.size by omega)
      have HU := Lib.hid hU
      have HV := Lib.hid hV
      have HT := Lib.hid hT
      clear hSE tdoc bt tn td tb tsz vb vsz vdoc v10 vd3 vd2 v6 bv v5 v12 hfUV hfV u12 u5 hfU hU hV hT wd2 w6 w5 bl hf h12 hK3 KF
      go_wp2_with fail
      rw [HU.out, HV.out]
      refine KW.out.mono ?_
      rintro e w9 ⟨rfl, hw9⟩
      rw [hw9, HT.out]
      clear hw9 w9 KW c12 f12 c15 c5 f5
      go_wp2_with fail
      refine (wpIn_wide (n := 9)).1 ?_
      refine range_E rfl (enters_of Try.func46 (by kernel_rfl) rfl) HSE.out KpW.tr KpW.put (fun _ => rfl)
        (fun pre W => Frm (SB (E + 2) T.heap.size) T W ∧ W.heap[E + 2]? = some (.cells #[.int .i64 pre.length] 3 (0, 0)) ∧ (pre.length : Int) ≤ S7)
        (fun c pre W => c = .exit 4 ∧ Frm (SB (E + 2) T.heap.size) T W ∧ W.heap[E + 2]? = some (.cells #[.int .i64 S7] 3 (0, 0)) ∧ (pre.length : Int) = S7 + 1)
        ?o1 ?o2 ?o3 ?o4 ⟨Frm.refl _ _, T12.out, hS0.1⟩ ?a3 ?assign3 ?body3 ?done3 ?stop3
      case o1 =>
        rintro s X Y' row ⟨h1, h2, h3⟩ hg hr
        obtain ⟨k1, k2⟩ := sb_grow h1 h2 (by have := TSZ.out; omega) hg (fun r e => (hr r e).1)
        exact ⟨k1, k2, h3⟩
      case o2 =>
        rintro c s X Y' row ⟨h0, h1, h2, h3⟩ hg hr
        obtain ⟨k1, k2⟩ := sb_grow h1 h2 (by have := TSZ.out; omega) hg (fun r e => (hr r e).1)
        exact ⟨h0, k1, k2, h3⟩
      case o3 =>
        rintro s X Y' row ⟨h1, h2, h3⟩ hg hr
        obtain ⟨k1, k2⟩ := sb_grow h1 h2 (by have := TSZ.out; omega) hg (fun r e => by have := (hr r e).1; omega)
        exact ⟨k1, k2, h3⟩
      case o4 =>
        rintro c s X Y' row ⟨h0, h1, h2, h3⟩ hg hr
        obtain ⟨k1, k2⟩ := sb_grow h1 h2 (by have := TSZ.out; omega) hg (fun r e => by have := (hr r e).1; omega)
        exact ⟨h0, k1, k2, h3⟩
      case assign3 =>
        intro l2 x W K hK
        gi_wp2
        exact hK
      case body3 =>
        rintro l2 pre ⟨k, d⟩ W9 ⟨hf, h12, hle7⟩ hlt hsz
        have hts := TSZ.out
        have c12 : W9.cell? ⟨E + 2, 0, none⟩ = some (.int .i64 pre.length) := by rw [cell_of_row _ _ _ _ _ _ h12]; rfl
        have f12 : W9.frozen? ⟨E + 2, 0, none⟩ = false := by simp [World.frozen?, h12]
        have e5 : W9.heap[w.heap.size]? = some (.cells #[.int .i64 S7] 3 (0, 0)) := (hf.block _ (Array.getElem?_eq_some_iff.1 T5.out).1 (by have := (Array.getElem?_eq_some_iff.1 T5.out).1; unfold SB; omega)).trans T5.out
        have c5 : W9.cell? ⟨w.heap.size, 0, none⟩ = some (.int .i64 S7) := by rw [cell_of_row _ _ _ _ _ _ e5]; rfl
        by_cases h7 : (pre.length : Int) = S7
        · have b7 : ((pre.length : Int) == S7) = true := by rw [beq_iff_eq]; exact h7
          have HF := Lib.hid (show Frm (SB (E + 2) T.heap.size) T W9 ∧ W9.heap[E + 2]? = some (.cells #[.int .i64 S7] 3 (0, 0)) from ⟨hf, by rw [← h7]; exact h12⟩)
          have HL7 := Lib.hid h7
          clear hf h12 h7 e5
          gi_wp2
          exact ⟨KeepsOthers.refl _, rfl, HF.out.1, HF.out.2, by rw [List.length_append]; have := HL7.out; simp; omega⟩
        · have b7 : ((pre.length : Int) == S7) = false := by rw [beq_eq_false_iff_ne]; exact h7
          have HPOST : Hid (∀ z : Int, z = ((pre.length + 1 : Nat) : Int) → KeepsOthers W9 (W9.setCell ⟨E + 2, 0, none⟩ (.int .i64 z)) ∧ KpW V.heap.size W1.heap.size D v false ns (T.heap.size + 2) W9 (W9.setCell ⟨E + 2, 0, none⟩ (.int .i64 z)) ∧ Frm (SB (E + 2) T.heap.size) T (W9.setCell ⟨E + 2, 0, none⟩ (.int .i64 z)) ∧ (W9.setCell ⟨E + 2, 0, none⟩ (.int .i64 z)).heap[E + 2]? = some (.cells #[.int .i64 (pre ++ [(k, d)]).length] 3 (0, 0)) ∧ (((pre ++ [(k, d)]).length : Nat) : Int) ≤ S7) := Lib.hid (fun z hz => by
            subst hz
            obtain ⟨g1, g2, g3⟩ := sb_set (u := .int .i64 ((pre.length + 1 : Nat) : Int)) hf h12
            have hfs : Frm (fun k => k = E + 2) W9 (W9.setCell ⟨E + 2, 0, none⟩ (.int .i64 ((pre.length + 1 : Nat) : Int))) := Frm.set _ rfl
            refine ⟨⟨hfs.size, fun k o' hk ho => ?_⟩, ⟨hfs.size, fun k h1 h2 h3 => g3 k (by omega) h3, fun hs => hs.keep hfs (by omega) (fun k hk e => by have := HZL.out.dlt k hk; omega)⟩, g1, ?_, ?_⟩
            · refine (g3 k (fun e => ?_) (Array.getElem?_eq_some_iff.1 hk).1).trans hk
              rw [e, h12] at hk
              cases hk
              cases ho
            · rw [g2, List.length_append]
              rfl
            · rw [List.length_append]
              simp
              omega)
          have hpl : pre.length ≤ 1000 := by omega
          clear hf h12 h7 e5
          gi_wp2
          exact HPOST.out _ (by omega)
      case done3 =>
        rintro D4 xs W9 hD4 rfl ⟨hf, h12, hle7⟩ hK4
        have hts := TSZ.out
        have c12 : W9.cell? ⟨E + 2, 0, none⟩ = some (.int .i64 xs.length) := by rw [cell_of_row _ _ _ _ _ _ h12]; rfl
        have bl : ∀ {k : Nat} {x : Obj}, k ≠ E + 2 → T.heap[k]? = some x → W9.heap[k]? = some x := fun hk hx => (hf.block _ (Array.getElem?_eq_some_iff.1 hx).1 (by have := (Array.getElem?_eq_some_iff.1 hx).1; unfold SB; omega)).trans hx
        have c5 : W9.cell? ⟨w.heap.size, 0, none⟩ = some (.int .i64 S7) := by rw [cell_of_row _ _ _ _ _ _ (bl (by omega) T5.out)]; rfl
        have c6 : W9.cell? ⟨w.heap.size + 1, 0, none⟩ = some (.bool false) := by rw [cell_of_row _ _ _ _ _ _ (bl (by omega) T6.out)]; rfl
        have f6 : W9.frozen? ⟨w.heap.size + 1, 0, none⟩ = false := by simp [World.frozen?, bl (show w.heap.size + 1 ≠ E + 2 by omega) T6.out]
        have c10 : W9.cell? ⟨E, 0, none⟩ = some (.slice A1 xs.length c1) := by rw [cell_of_row _ _ _ _ _ _ (bl (by omega) T10.out)]; rfl
        have hmin : min S7 (xs.length : Int) = xs.length := by omega
        have hzb := HZB.out.size
        have HFIN : Hid (∀ u, ((W9.setCell ⟨w.heap.size + 1, 0, none⟩ u).heap[D4]? = some (.deferred (some [])) ∧ (W9.setCell ⟨w.heap.size + 1, 0, none⟩ u).heap[D3]? = some (.deferred (some [])) ∧ (W9.setCell ⟨w.heap.size + 1, 0, none⟩ u).heap[D2]? = some (.deferred (some [])) ∧ (W9.setCell ⟨w.heap.size + 1, 0, none⟩ u).heap[w.heap.size + 1]? = some (.cells #[u] 4 (0, 0))) ∧ Below w.heap.size w (W9.setCell ⟨w.heap.size + 1, 0, none⟩ u)) := Lib.hid (fun u => by
          have hfs : Frm (fun k => k = w.heap.size + 1) W9 (W9.setCell ⟨w.heap.size + 1, 0, none⟩ u) := Frm.set _ rfl
          have up : ∀ {k : Nat} {x : Obj}, k ≠ w.heap.size + 1 → W9.heap[k]? = some x → (W9.setCell ⟨w.heap.size + 1, 0, none⟩ u).heap[k]? = some x := fun hk hx => (hfs.block _ (Array.getElem?_eq_some_iff.1 hx).1 hk).trans hx
          refine ⟨⟨up (by omega) hK4, up (by omega) (bl (by omega) TD3.out), up (by omega) (bl (by omega) TD2.out), heap_setCell_same _ _ 0 _ _ _ (bl (by omega) T6.out)⟩, ?_⟩
          exact TB.out.trans ((hf.toBelow (by omega) (fun k e => by unfold SB at e; omega)).trans (hfs.toBelow (by have := hf.size; omega) (fun k e => by omega))))
        clear hf h12 bl hK4
        go_wp2
        obtain ⟨⟨t4, t3, t2, t1⟩, tb⟩ := HFIN.out (.bool true)
        rw [show D3 = w3.heap.size + 3 by omega] at t3
        rw [hD9] at t2
        have hput : ∀ (X : World) (l : Nat) (o' : Obj), w.heap.size ≤ l → Below w.heap.size w X → Below w.heap.size w (X.putObj l o') := fun X l o' hl hb => hb.grown (grownBy_putObj' X l o') hb.size (fun k e => by cases e; exact hl)
        refine ⟨by simp, .inl ⟨_, _, rfl, run_takeDeferred t4, ?_⟩⟩
        refine ⟨by simp, .inl ⟨_, _, rfl, run_takeDeferred ((World.putObj_heap_other (by omega)).trans t3), ?_⟩⟩
        refine ⟨by simp, .inl ⟨_, _, rfl, run_takeDeferred ((World.putObj_heap_other (by omega)).trans ((World.putObj_heap_other (by omega)).trans t2)), ?_⟩⟩
        refine ⟨.bool true, ?_, rfl, hput _ _ _ (by omega) (hput _ _ _ (by omega) (hput _ _ _ (by omega) tb))⟩
        have c1' : ∀ o1 o2 o3, ((((W9.setCell ⟨w.heap.size + 1, 0, none⟩ (.bool true)).putObj D4 o1).putObj (w3.heap.size + 3) o2).putObj (E + 9) o3).cell? ⟨w.heap.size + 1, 0, none⟩ = some (.bool true) := fun o1 o2 o3 => by
          rw [cell_of_row _ _ _ _ _ _ ((World.putObj_heap_other (show w.heap.size + 1 ≠ E + 9 by omega)).trans ((World.putObj_heap_other (show w.heap.size + 1 ≠ w3.heap.size + 3 by omega)).trans ((World.putObj_heap_other (show w.heap.size + 1 ≠ D4 by omega)).trans t1)))]
          rfl
        simp [results, Try.f4, go_sem, c1']
      case stop3 =>
        rintro D4 c pre W9 hD4 hpx ⟨rfl, hf, h12, hle7⟩ hK4
        have hts := TSZ.out
        have c12 : W9.cell? ⟨E + 2, 0, none⟩ = some (.int .i64 S7) := by rw [cell_of_row _ _ _ _ _ _ h12]; rfl
        have bl : ∀ {k : Nat} {x : Obj}, k ≠ E + 2 → T.heap[k]? = some x → W9.heap[k]? = some x := fun hk hx => (hf.block _ (Array.getElem?_eq_some_iff.1 hx).1 (by have := (Array.getElem?_eq_some_iff.1 hx).1; unfold SB; omega)).trans hx
        have c5 : W9.cell? ⟨w.heap.size, 0, none⟩ = some (.int .i64 S7) := by rw [cell_of_row _ _ _ _ _ _ (bl (by omega) T5.out)]; rfl
        have c6 : W9.cell? ⟨w.heap.size + 1, 0, none⟩ = some (.bool false) := by rw [cell_of_row _ _ _ _ _ _ (bl (by omega) T6.out)]; rfl
        have f6 : W9.frozen? ⟨w.heap.size + 1, 0, none⟩ = false := by simp [World.frozen?, bl (show w.heap.size + 1 ≠ E + 2 by omega) T6.out]
        have c10 : W9.cell? ⟨E, 0, none⟩ = some (.slice A1 o.length c1) := by rw [cell_of_row _ _ _ _ _ _ (bl (by omega) T10.out)]; rfl
        have hpl := hpx.length_le
        have hmin : min S7 (o.length : Int) = S7 := by omega
        have hzb := HZB.out.size
        have HFIN : Hid (∀ u, ((W9.setCell ⟨w.heap.size + 1, 0, none⟩ u).heap[D4]? = some (.deferred (some [])) ∧ (W9.setCell ⟨w.heap.size + 1, 0, none⟩ u).heap[D3]? = some (.deferred (some [])) ∧ (W9.setCell ⟨w.heap.size + 1, 0, none⟩ u).heap[D2]? = some (.deferred (some [])) ∧ (W9.setCell ⟨w.heap.size + 1, 0, none⟩ u).heap[w.heap.size + 1]? = some (.cells #[u] 4 (0, 0))) ∧ Below w.heap.size w (W9.setCell ⟨w.heap.size + 1, 0, none⟩ u)) := Lib.hid (fun u => by
          have hfs : Frm (fun k => k = w.heap.size + 1) W9 (W9.setCell ⟨w.heap.size + 1, 0, none⟩ u) := Frm.set _ rfl
          have up : ∀ {k : Nat} {x : Obj}, k ≠ w.heap.size + 1 → W9.heap[k]? = some x → (W9.setCell ⟨w.heap.size + 1, 0, none⟩ u).heap[k]? = some x := fun hk hx => (hfs.block _ (Array.getElem?_eq_some_iff.1 hx).1 hk).trans hx
          refine ⟨⟨up (by omega) hK4, up (by omega) (bl (by omega) TD3.out), up (by omega) (bl (by omega) TD2.out), heap_setCell_same _ _ 0 _ _ _ (bl (by omega) T6.out)⟩, ?_⟩
          exact TB.out.trans ((hf.toBelow (by omega) (fun k e => by unfold SB at e; omega)).trans (hfs.toBelow (by have := hf.size; omega) (fun k e => by omega))))
        clear hf h12 bl hK4
        refine wpIn_wide.2 ?_
        go_wp2
        obtain ⟨⟨t4, t3, t2, t1⟩, tb⟩ := HFIN.out (.bool true)
        rw [show D3 = w3.heap.size + 3 by omega] at t3
        rw [hD9] at t2
        have hput : ∀ (X : World) (l : Nat) (o' : Obj), w.heap.size ≤ l → Below w.heap.size w X → Below w.heap.size w (X.putObj l o') := fun X l o' hl hb => hb.grown (grownBy_putObj' X l o') hb.size (fun k e => by cases e; exact hl)
        refine ⟨by simp, .inl ⟨_, _, rfl, run_takeDeferred t4, ?_⟩⟩
        refine ⟨by simp, .inl ⟨_, _, rfl, run_takeDeferred ((World.putObj_heap_other (by omega)).trans t3), ?_⟩⟩
        refine ⟨by simp, .inl ⟨_, _, rfl, run_takeDeferred ((World.putObj_heap_other (by omega)).trans ((World.putObj_heap_other (by omega)).trans t2)), ?_⟩⟩
        refine ⟨.bool true, ?_, rfl, hput _ _ _ (by omega) (hput _ _ _ (by omega) (hput _ _ _ (by omega) tb))⟩
        have c1' : ∀ o1 o2 o3, ((((W9.setCell ⟨w.heap.size + 1, 0, none⟩ (.bool true)).putObj D4 o1).putObj (w3.heap.size + 3) o2).putObj (E + 9) o3).cell? ⟨w.heap.size + 1, 0, none⟩ = some (.bool true) := fun o1 o2 o3 => by
          rw [cell_of_row _ _ _ _ _ _ ((World.putObj_heap_other (show w.heap.size + 1 ≠ E + 9 by omega)).trans ((World.putObj_heap_other (show w.heap.size + 1 ≠ w3.heap.size + 3 by omega)).trans ((World.putObj_heap_other (show w.heap.size + 1 ≠ D4 by omega)).trans t1)))]
          rfl
        simp [results, Try.f4, go_sem, c1']
end Go.Proofs.Ytojjdnfkcigdbaa
