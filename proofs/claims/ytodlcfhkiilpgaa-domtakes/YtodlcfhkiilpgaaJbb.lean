/- The law of DomTakes. -/
import Derived.Test.YtodlcfhkiilpgaaJba
import Derived.Test.YtodlcfhkiilpgaaJa
import Derived.Test.YtodlcfhkiilpgaaJr
import Derived.Test.YtodlcfhkiilpgaaJs
import Derived.Deep.DeepCutAuto
import Derived.Test.YtodlcfhkiilpgaaRq
import Derived.Stop.RegionWithIn
import Derived.StillTailTactics
namespace Go.Proofs.Ytodlcfhkiilpgaa
open Go.RowKit Go.Shelf Go.Lib
attribute [local go_sem] Oper.semAt_some
theorem wide_fn (f : FuncId) : Fence.wide.fn f = True := propext ⟨fun _ => trivial, fun _ => trivial⟩
attribute [local simp, local go_sem] wide_fn

set_option maxRecDepth 100000 in
set_option maxHeartbeats 20000000 in
theorem domTakes_law (ops : List OpD) (O : Option Addr) (co : Nat) (a : Int) (w : World) (hO : RdO w O ops) : Calls Try.prog 7 #[.slice O ops.length co, .int .i64 a] w fun e w' => e = .returned (.bool true) ∧ Below w.heap.size w w' := by
  have HO := Lib.hid hO
  clear hO
  refine (callsIn_wide (n := 9)).1 ?_
  refine callsIn_of_wp_marks Try.func7 rfl trivial ?_ rfl
  simp only [Try.ntmps7, List.size_toArray, List.length_cons, List.length_nil, Nat.reduceAdd, Nat.reduceSub, Array.replicate_succ, Array.replicate_zero, List.push_toArray, List.append_toArray, List.nil_append, List.cons_append]
  refine wpIn_wide.2 ?_
  go_wp2_with fail
  obtain ⟨W0, hW0⟩ : ∃ W0, w.alloc (.cells #[.bool false] 4) = W0 := ⟨_, rfl⟩
  have hs0 : W0.heap.size = w.heap.size + 1 := by rw [← hW0]; simp
  have hb0 : Below w.heap.size w W0 := by rw [← hW0]; exact (Below.refl _ w).alloc (Nat.le_refl _) _
  have q4 : W0.heap[w.heap.size]? = some (.cells #[.bool false] 4 (0, 0)) := by rw [← hW0]; exact heap_alloc_new w _
  rw [hW0]
  have HS0 := Lib.hid hs0
  have HB0 := Lib.hid hb0
  have Q4 := Lib.hid q4
  clear hW0 hs0 hb0 q4
  refine (head8_any W0).mono ?_
  rintro e W1 ⟨rfl, hb1⟩
  have KP := Lib.hid (play_any ops O co W1 ((HO.out.below HB0.out).below (hb1.mono (Nat.le_refl _))))
  have HB1 := Lib.hid hb1
  clear hb1
  go_wp2_with fail
  refine KP.out.mono ?_
  rintro e W2 ⟨D, v, ns, va, os, rfl, st⟩
  obtain ⟨Av, cv, hva, _, _, hgv⟩ := st.own.sl
  have hpos := st.pos
  obtain ⟨g, hAv, _, _⟩ := hgv hpos
  subst hAv hva
  have hl2 := st.len2
  have hle := st.len
  obtain ⟨i, hav, hil⟩ := and65W a os.length hpos
  have hnz : ¬ (os.length : Int) = 0 := by omega
  have hnz2 : ((os.length : Int) == 0) = false := by rw [beq_eq_false_iff_ne]; omega
  have hnz3 : ¬ os.length = 0 := by omega
  obtain ⟨x, hx⟩ : ∃ x, os[i]? = some x := ⟨_, List.getElem?_eq_getElem hil⟩
  obtain ⟨y, hy⟩ : ∃ y, ns[i]? = some y := ⟨_, List.getElem?_eq_getElem (by omega)⟩
  have hxy : y.pl = x.pl := by
    have h1 := congrArg (fun l : List Pl => l[i]?) st.eq
    simp only [List.getElem?_map, hx, hy, Option.map_some, Option.some.injEq] at h1
    exact h1
  obtain ⟨kz, hkz⟩ : ∃ kz, x.pl.kind = kz := ⟨_, rfl⟩
  have yk : y.kind = kz := by rw [← hkz, ← hxy]; rfl
  -- the boxes
  obtain ⟨W3, hW3⟩ : ∃ W3, W2.alloc (.cells #[.slice (some ⟨g, 0, none⟩) os.length cv] 45) = W3 := ⟨_, rfl⟩
  have hb23 : Below W2.heap.size W2 W3 := by rw [← hW3]; exact (Below.refl _ W2).alloc (Nat.le_refl _) _
  have st3 := st.below hb23
  have q6 : W3.heap[W2.heap.size]? = some (.cells #[.slice (some ⟨g, 0, none⟩) os.length cv] 45 (0, 0)) := by rw [← hW3]; exact heap_alloc_new W2 _
  have hs3 : W3.heap.size = W2.heap.size + 1 := by rw [← hW3, World.size_alloc]
  have hs2 : W1.heap.size ≤ W2.heap.size := st.bw.size
  have hs01 := HB1.out.size
  have hP := HS0.out
  have q4' : W3.heap[w.heap.size]? = some (.cells #[.bool false] 4 (0, 0)) := by
    have h1 : W1.heap[w.heap.size]? = some (.cells #[.bool false] 4 (0, 0)) := (HB1.out.block _ (by omega)).trans Q4.out
    exact (st3.bw.block _ (by omega)).trans h1
  have hin : ∀ k, DB D v ns k ∨ OB (.slice (some ⟨g, 0, none⟩) os.length cv) os k → k < W2.heap.size := fun k hk => by
    rcases hk with hk | hk
    · exact (st.doc.in_ k hk).2
    · exact (st.own.in_ k hk).2
  have KN := Lib.hid (New_any W3)
  obtain ⟨B6, hB6⟩ : ∃ B6, W2.heap.size = B6 := ⟨_, rfl⟩
  have hbw3 : Below w.heap.size w W1 := HB0.out.trans (HB1.out.mono (by omega))
  have HST3 := Lib.hid st3
  have Q6 := Lib.hid q6
  have Q4' := Lib.hid q4'
  have HX := Lib.hid hx
  have HY := Lib.hid hy
  have HXY := Lib.hid hxy
  have HKZ := Lib.hid hkz
  have YK := Lib.hid yk
  have HIN := Lib.hid hin
  have HBW := Lib.hid hbw3
  have HW3 := Lib.hid hW3
  have HB6 := Lib.hid hB6
  have HSZ := Lib.hid (And.intro hs3 (And.intro hs2 (And.intro hs01 hP)))
  clear st KP st3 q6 q4' hx hy hxy hkz yk hin hbw3 hW3 hB6 hs3 hs2 hs01 hP hb23 HO HB0 HB1 Q4
  go_wp2_with fail
  rw [HW3.out]
  refine KN.out.mono ?_
  rintro e W4 ⟨D2, v2, rfl, hd4, hb4⟩
  obtain ⟨W5, hW5⟩ : ∃ W5, W4.alloc (.cells #[.pointer (some ⟨D2, 0, none⟩)] 23) = W5 := ⟨_, rfl⟩
  have hb45 : Below W4.heap.size W4 W5 := by rw [← hW5]; exact (Below.refl _ W4).alloc (Nat.le_refl _) _
  have q8 : W5.heap[W4.heap.size]? = some (.cells #[.pointer (some ⟨D2, 0, none⟩)] 23 (0, 0)) := by rw [← hW5]; exact heap_alloc_new W4 _
  obtain ⟨B8, hB8⟩ : ∃ B8, W4.heap.size = B8 := ⟨_, rfl⟩
  obtain ⟨hs3, hs2, hs01, hP⟩ := HSZ.out
  have hb6 := HB6.out
  have hb35 := hb4.trans (hb45.mono hb4.size)
  have hs34 := hb4.size
  have tl : TL W1 D v ns (.slice (some ⟨g, 0, none⟩) os.length cv) os w.heap.size B6 B8 W3.heap.size D2 v2 [pageNd] W5 := by
    rw [hB8] at q8
    have q6 := Q6.out
    rw [hb6] at q6
    refine ⟨HST3.out.below hb35, (hb35.block _ (by omega)).trans Q4'.out, (hb35.block _ (by omega)).trans q6, q8, hd4.below hb45, fun k hk => ?_, fun k hk => by rw [← hb6]; exact HIN.out k hk, by omega, by omega⟩
    have h1 := hd4.in_ k hk
    exact ⟨fun e => by have := HIN.out k (.inl e); omega, fun e => by have := HIN.out k (.inr e); omega, by omega, by omega, by omega, by omega⟩
  have HTL := Lib.hid tl
  have HB8 := Lib.hid hB8
  have HW5 := Lib.hid hW5
  have q0 : W5.cell? ⟨g, i * 6, none⟩ = some (.int .i64 kz) := by have h1 := tl.st.own.cell HX.out (show 0 < 6 by omega); rw [Nat.add_zero] at h1; rw [h1, ← HKZ.out]; rfl
  have c6 : W5.cell? ⟨B6, 0, none⟩ = some (.slice (some ⟨g, 0, none⟩) os.length cv) := by rw [cell_of_row _ _ _ _ _ _ tl.b6]; rfl
  have c8 : W5.cell? ⟨B8, 0, none⟩ = some (.pointer (some ⟨D2, 0, none⟩)) := by rw [cell_of_row _ _ _ _ _ _ tl.b8]; rfl
  have hbw5 : Below w.heap.size w W5 := HBW.out.trans (tl.bw.mono (by omega))
  have f4 : W5.frozen? ⟨w.heap.size, 0, none⟩ = false := by simp [World.frozen?, tl.b5]
  have c4 : W5.cell? ⟨w.heap.size, 0, none⟩ = some (.bool false) := by rw [cell_of_row _ _ _ _ _ _ tl.b5]; rfl
  have hgi : (i : Int) * 6 = ((i * 6 : Nat) : Int) := by omega
  clear KN hW5 hd4 hb4 hb45 q8 hB8 hs3 hs2 hs01 hP hb6 hb35 hs34 Q6 Q4' HST3 HW3
  by_cases hk1 : kz = 1
  · have KT := Lib.hid (take_none D2 (i : Int) W5 tl.st.doc (.inr (by rw [atN_some HY.out, YK.out, hk1])))
    subst hk1
    obtain ⟨A2, ca2, hv2, _, _, _⟩ := tl.de.sl
    subst hv2
    have c2 := tl.de.cells.1
    have HFIN : Hid (∀ u, (W5.setCell ⟨w.heap.size, 0, none⟩ u).cell? ⟨w.heap.size, 0, none⟩ = some u ∧ Below w.heap.size w (W5.setCell ⟨w.heap.size, 0, none⟩ u)) := Lib.hid (fun u => by
      have hfs : Frm (fun k => k = w.heap.size) W5 (W5.setCell ⟨w.heap.size, 0, none⟩ u) := Frm.set _ rfl
      exact ⟨by rw [cell_of_row _ _ _ _ _ _ (heap_setCell_same _ _ 0 _ _ _ tl.b5)]; rfl, hbw5.trans (hfs.toBelow hbw5.size (fun k e => by omega))⟩)
    clear tl
    go_wp2_with fail
    rw [HW5.out, HB6.out, HB8.out]
    refine KT.out.mono ?_
    rintro e w6 ⟨rfl, hw6⟩
    rw [hw6]
    clear hw6 w6
    go_wp2
    refine ⟨.bool true, ?_, rfl, (HFIN.out _).2⟩
    have c1' := (HFIN.out (.bool true)).1
    simp [results, Try.f7, go_sem, c1']
  · have hyk : y.kind ≠ 1 := by rw [YK.out]; exact hk1
    have hkb : (kz == 1) = false := by rw [beq_eq_false_iff_ne]; exact hk1
    obtain ⟨L, N, htk, hNl⟩ := tl.st.tr1.tk1 (fun z hz => (tl.st.rs z hz).1) (i := i) (by omega) [pageNd].length (-1)
    have hat : ∀ z ∈ ns, z.attrs = [] := fun z hz => (tl.st.rs z hz).2.1
    have KT := Lib.hid (take_any (i : Int) W5 tl.st.doc tl.de (fun k hk => (tl.sep k hk).1) tl.st.gd tl.st.cn (fun z hz => by rw [hat z hz]; simp) (by omega) L N i y rfl HY.out hyk htk (by simp; omega) (fun j z hz => by
      match j, hz with
      | 0, hz => simp at hz; subst hz; exact ⟨rfl, by decide, rfl⟩
      | j + 1, hz => simp at hz))
    obtain ⟨o, hwk, hol⟩ := tl.st.tr.walk (i := i) (by rw [List.length_map]; exact hil) 1
    rw [List.length_map] at hol
    have HTK := Lib.hid htk
    have HWK := Lib.hid hwk
    have HAT := Lib.hid hat
    have HYK := Lib.hid hyk
    clear tl htk hwk hat hyk
    go_wp2_with fail
    rw [HW5.out, HB6.out, HB8.out]
    refine KT.out.mono ?_
    rintro e W6 ⟨rfl, ys, L', rfl, hp2, ha⟩
    obtain ⟨v3, tl6⟩ := HTL.out.adds ha
    have hgd := HTL.out.st.gd
    have hcn := HTL.out.st.cn
    obtain ⟨hcp, hyl, y1, hy1, hup⟩ := take_facts hcn hgd HTK.out (fun z hz => by rw [HY.out] at hz; cases hz; exact HYK.out) hp2
    have hLN := HTK.out.len.2
    have hsml := hp2.small (fun z hz => by simp at hz; subst hz; exact ⟨rfl, rfl⟩) (HTK.out.atr HAT.out) (by simp at hLN; omega) (by omega)
    have hnsm : ∀ z ∈ ns, z.attrs.length ≤ 1000000 ∧ z.kids.length ≤ 1000000 := fun z hz => ⟨by rw [HAT.out z hz]; simp, by have := HTL.out.st.kids z hz; omega⟩
    have KS1 : Hid (∀ W, TL W1 D v ns (.slice (some ⟨g, 0, none⟩) os.length cv) os w.heap.size B6 B8 W3.heap.size D2 v3 ys W → Calls Try.prog 24 #[.pointer (some ⟨D, 0, none⟩), .int .i64 i, .pointer (some ⟨D2, 0, none⟩), .int .i64 1] W fun e W' => e = .returned (.bool true) ∧ Below W.heap.size W W') := Lib.hid (fun W h => Same_any (i : Int) 1 true _ W h.st.doc h.de hnsm (by omega) (hcp.sm _ (by omega)))
    have KS2 : Hid (∀ W, TL W1 D v ns (.slice (some ⟨g, 0, none⟩) os.length cv) os w.heap.size B6 B8 W3.heap.size D2 v3 ys W → Calls Try.prog 24 #[.pointer (some ⟨D2, 0, none⟩), .int .i64 1, .pointer (some ⟨D, 0, none⟩), .int .i64 i] W fun e W' => e = .returned (.bool true) ∧ Below W.heap.size W W') := Lib.hid (fun W h => Same_any 1 (i : Int) true _ W h.de h.st.doc hsml (by omega) (hcp.symm.sm _ (by omega)))
    have KU := up_any ((1 : Nat) : Int) W6 tl6.de
    rw [atN_some hy1, hup, show ((1 : Nat) : Int) = 1 from rfl] at KU
    replace KU := Lib.hid KU
    have c6 : W6.cell? ⟨B6, 0, none⟩ = some (.slice (some ⟨g, 0, none⟩) os.length cv) := by rw [cell_of_row _ _ _ _ _ _ tl6.b6]; rfl
    have c8 : W6.cell? ⟨B8, 0, none⟩ = some (.pointer (some ⟨D2, 0, none⟩)) := by rw [cell_of_row _ _ _ _ _ _ tl6.b8]; rfl
    have q0 : W6.cell? ⟨g, i * 6, none⟩ = some (.int .i64 kz) := by have h1 := tl6.st.own.cell HX.out (show 0 < 6 by omega); rw [Nat.add_zero] at h1; rw [h1, ← HKZ.out]; rfl
    have TL6 := Lib.hid tl6
    have KS1a := Lib.hid (KS1.out W6 tl6)
    have HCP := Lib.hid hcp
    have HY1 := Lib.hid hy1
    clear hp2 ha tl6 hgd hcn hcp hup hsml hnsm KT c4 f4 hy1 hLN
    go_wp2_with fail
    refine KU.out.mono ?_
    rintro e w6 ⟨rfl, hw6⟩
    rw [hw6]
    clear hw6 w6 KU
    go_wp2_with fail
    refine KS1a.out.mono ?_
    rintro e W7 ⟨rfl, hb7⟩
    have tl7 := TL6.out.below hb7
    have c8 : W7.cell? ⟨B8, 0, none⟩ = some (.pointer (some ⟨D2, 0, none⟩)) := by rw [cell_of_row _ _ _ _ _ _ tl7.b8]; rfl
    have KS2a := Lib.hid (KS2.out W7 tl7)
    have TL7 := Lib.hid tl7
    clear tl7 hb7 KS1a KS1
    go_wp2_with fail
    refine KS2a.out.mono ?_
    rintro e W8 ⟨rfl, hb8⟩
    have tl8 := TL7.out.below hb8
    have c6 : W8.cell? ⟨B6, 0, none⟩ = some (.slice (some ⟨g, 0, none⟩) os.length cv) := by rw [cell_of_row _ _ _ _ _ _ tl8.b6]; rfl
    have KL := list_any tl8.st.tr (by omega) o.length (i : Int) 1 o W8 rfl tl8.st.own (by omega) (by omega) HWK.out (by omega) (by omega)
    rw [show ((1 : Nat) : Int) = 1 from rfl] at KL
    unfold LiPost at KL
    replace KL := Lib.hid KL
    have TL8 := Lib.hid tl8
    clear tl8 hb8 KS2a KS2 TL7 TL6 HTL
    go_wp2_with fail
    refine KL.out.mono ?_
    rintro e W9 ⟨v1, v2', rfl, r1, r2, hb9⟩
    have tl9 := TL8.out.below hb9
    obtain ⟨A1, c1, hv1, hl1, _, _⟩ := row_form r1
    subst hv1
    have hb8 := HB8.out
    have h8lt : B8 < W8.heap.size := (Array.getElem?_eq_some_iff.1 TL8.out.b8).1
    have hsz89 := hb9.size
    obtain ⟨W10, hW10⟩ : ∃ W10, (W9.alloc (.cells #[.slice A1 o.length c1] 27)).alloc (.cells #[.int .i64 0] 3) = W10 := ⟨_, rfl⟩
    obtain ⟨W11, hW11⟩ : ∃ W11, (W10.alloc (.cells #[.pointer (some ⟨D2, 0, none⟩)] 23)).alloc (.cells #[.int .i64 1] 3) = W11 := ⟨_, rfl⟩
    obtain ⟨E, hE⟩ : ∃ E, W9.heap.size = E := ⟨_, rfl⟩
    have st : ∀ (V : World) (x : Obj), (V.alloc x).heap.size = V.heap.size + 1 := fun V x => by simp
    have up : ∀ (V : World) (x : Obj) (n : Nat) (y : Obj), V.heap[n]? = some y → (V.alloc x).heap[n]? = some y := fun V x n y h => (Below.heap_alloc V x n (Array.getElem?_eq_some_iff.1 h).1).trans h
    have nw : ∀ (V : World) (x : Obj) (n : Nat), V.heap.size = n → (V.alloc x).heap[n]? = some x := fun V x n h => by rw [← h]; exact heap_alloc_new V x
    have s10 : W10.heap.size = E + 2 := by rw [← hW10, st, st, hE]
    have s11 : W11.heap.size = E + 4 := by rw [← hW11, st, st, s10]
    have b10 : Below W9.heap.size W9 W10 := by rw [← hW10]; exact ((Below.refl _ W9).alloc (Nat.le_refl _) _).alloc (by rw [st]; omega) _
    have b11 : Below W10.heap.size W10 W11 := by rw [← hW11]; exact ((Below.refl _ W10).alloc (Nat.le_refl _) _).alloc (by rw [st]; omega) _
    have m0 : W11.heap[E]? = some (.cells #[.slice A1 o.length c1] 27 (0, 0)) := by rw [← hW11, ← hW10]; exact up _ _ _ _ (up _ _ _ _ (up _ _ _ _ (nw _ _ _ hE)))
    have m1 : W11.heap[E + 1]? = some (.cells #[.int .i64 0] 3 (0, 0)) := by rw [← hW11, ← hW10]; exact up _ _ _ _ (up _ _ _ _ (nw _ _ _ (by rw [st, hE])))
    have m2 : W11.heap[E + 2]? = some (.cells #[.pointer (some ⟨D2, 0, none⟩)] 23 (0, 0)) := by rw [← hW11]; exact up _ _ _ _ (nw _ _ _ s10)
    have m3 : W11.heap[E + 3]? = some (.cells #[.int .i64 1] 3 (0, 0)) := by rw [← hW11]; exact nw _ _ _ (by rw [st, s10])
    have b911 : Below W9.heap.size W9 W11 := b10.trans (b11.mono (by omega))
    have tl11 := tl9.below b911
    have r11 := own_keep r1 b911
    have c8 : W10.cell? ⟨B8, 0, none⟩ = some (.pointer (some ⟨D2, 0, none⟩)) := by rw [cell_of_row _ _ _ _ _ _ (tl9.below b10).b8]; rfl
    have c8u : ((W9.alloc (.cells #[.slice A1 o.length c1] 27)).alloc (.cells #[.int .i64 0] 3)).cell? ⟨B8, 0, none⟩ = some (.pointer (some ⟨D2, 0, none⟩)) := by rw [hW10]; exact c8
    have hwk := HWK.out
    rw [← tl9.st.eq] at hwk
    obtain ⟨hoy, o', hol', hoo, lf, hvis⟩ := takes_plain tl9.st.tr1 (by omega) HCP.out (by omega) hwk
    have hwi := wk_in tl9.st.tr1 (by rw [List.length_map]; omega) hwk
    rw [List.length_map] at hwi
    have hSE := iterW_t 8 (by omega) 1 o' lf true hvis (by omega) W11 (Bd := E + 2) (Bn := E + 3) ⟨m2, tl11.de⟩ m3
    have KW := Lib.hid (walk_any D2 1 W10)
    rw [s10, hW11] at KW
    have hdlt : ∀ k, DB D2 v3 ys k → k < E := fun k hk => by have := (tl9.de.in_ k hk).2; omega
    have hrlt : ∀ k, (Value.slice A1 o.length c1).ownBlock = some k → k < E := fun k e => by have := (r1.lt k e).2; omega
    have HSE := Lib.hid hSE
    have TL11 := Lib.hid tl11
    have R11 := Lib.hid r11
    have M0 := Lib.hid m0
    have M1 := Lib.hid m1
    have HOO := Lib.hid hoo
    have HWI := Lib.hid hwi
    have HDLT := Lib.hid hdlt
    have HRLT := Lib.hid hrlt
    have HW10 := Lib.hid hW10
    have HWE := Lib.hid hE
    have S11 := Lib.hid (show W11.heap.size = E + 4 ∧ B8 < E by omega)
    have HOL := Lib.hid (show o'.length = o.length ∧ o.length ≤ os.length by omega)
    clear r1 r2 hb9 tl9 hb8 h8lt hsz89 hW10 hW11 hE st up nw s10 s11 b10 b11 m0 m1 m2 m3 b911 tl11 r11 hwk hoy hol' hoo hvis hwi hSE hdlt hrlt hl1 KL TL8 c6
    go_wp2_with fail
    rw [HW10.out, HWE.out]
    refine KW.out.mono ?_
    rintro e w12 ⟨rfl, hw12⟩
    rw [hw12]
    clear hw12 w12 KW
    go_wp2_with fail
    refine (wpIn_wide (n := 9)).1 ?_
    refine range_T rfl (enters_of Try.func48 (by kernel_rfl) rfl) HSE.out KpW.tr KpW.put (fun _ => rfl)
      (fun pre W => Frm (SB (E + 1) W11.heap.size) W11 W ∧ W.heap[E + 1]? = some (.cells #[.int .i64 pre.length] 3 (0, 0))) ?hI ⟨Frm.refl _ _, M1.out⟩ ?a1 ?assign ?body ?done
    case hI =>
      rintro s X Y' row ⟨h1, h2⟩ hg hr
      exact sb_grow h1 h2 (by have := S11.out; omega) hg (fun r e => (hr r e).1)
    case assign =>
      intro l2 x W' K hK
      gi_wp2
      exact hK
    case body =>
      rintro l2 pre ⟨k, d⟩ W ⟨hf, h12⟩ hpx hsz
      obtain ⟨hs11, h8e⟩ := S11.out
      obtain ⟨hol1, hol2⟩ := HOL.out
      obtain ⟨hlt, _, _, _⟩ := pre_at hpx
      have hok : o'[pre.length]? = some (k, d) := by
        obtain ⟨t, ht⟩ := hpx
        rw [← ht]
        simp
      obtain ⟨p, hp⟩ : ∃ p, o[pre.length]? = some p := ⟨_, List.getElem?_eq_getElem (by omega)⟩
      obtain ⟨k', hk', hkin, hkk⟩ := HOO.out _ _ hp
      rw [hok] at hk'
      injection hk' with hk'
      injection hk' with hk' _
      subst hk'
      have hpm := HWI.out p (List.mem_of_getElem? hp)
      have hl2 := TL11.out.st.len2
      obtain ⟨q, hq⟩ : ∃ q : Nat, p.1 = q := ⟨p.1.toNat, by omega⟩
      obtain ⟨xo, hxo⟩ : ∃ x, os[q]? = some x := ⟨_, List.getElem?_eq_getElem (by omega)⟩
      obtain ⟨xn, hxn⟩ : ∃ x, ns[q]? = some x := ⟨_, List.getElem?_eq_getElem (by omega)⟩
      obtain ⟨kq, hkq⟩ : ∃ kq, xo.pl.kind = kq := ⟨_, rfl⟩
      have hxk : xn.kind = kq := by
        have h1 := congrArg (fun l : List Pl => l[q]?) TL11.out.st.eq
        simp only [List.getElem?_map, hxo, hxn, Option.map_some, Option.some.injEq] at h1
        rw [← hkq, ← h1]
        rfl
      rw [hq, atN_some hxn, hxk] at hkk
      have tlw := TL11.out.keep hf (fun j e => by
        refine ⟨by unfold SB at e; omega, fun e2 => ?_⟩
        have := HDLT.out j e2
        unfold SB at e
        omega)
      have bl : ∀ {k : Nat} {x : Obj}, k ≠ E + 1 → W11.heap[k]? = some x → W.heap[k]? = some x := fun hk hx => (hf.block _ (Array.getElem?_eq_some_iff.1 hx).1 (by have := (Array.getElem?_eq_some_iff.1 hx).1; unfold SB; omega)).trans hx
      have c12 : W.cell? ⟨E + 1, 0, none⟩ = some (.int .i64 pre.length) := by rw [cell_of_row _ _ _ _ _ _ h12]; rfl
      have f12 : W.frozen? ⟨E + 1, 0, none⟩ = false := by simp [World.frozen?, h12]
      have c10 : W.cell? ⟨E, 0, none⟩ = some (.slice A1 o.length c1) := by rw [cell_of_row _ _ _ _ _ _ (bl (by omega) M0.out)]; rfl
      have c6 : W.cell? ⟨B6, 0, none⟩ = some (.slice (some ⟨g, 0, none⟩) os.length cv) := by rw [cell_of_row _ _ _ _ _ _ tlw.b6]; rfl
      have c8 : W.cell? ⟨B8, 0, none⟩ = some (.pointer (some ⟨D2, 0, none⟩)) := by rw [cell_of_row _ _ _ _ _ _ tlw.b8]; rfl
      have rW := hf.own R11.out (fun k e1 e2 => by have h1 := HRLT.out k e1; unfold SB at e2; omega)
      obtain ⟨b9, o9, hB9, hb9, hcq⟩ := (row_rd rW).pos (by rw [fsts_len]; omega)
      subst hB9
      have ck1 : W.cell? ⟨b9, o9 + pre.length, none⟩ = some (.int .i64 q) := by
        have h1 := hcq pre.length (by rw [fsts_len]; omega)
        rw [show (fsts o)[pre.length]? = some (q : Int) by unfold fsts; rw [List.getElem?_map, hp, Option.map_some, hq]] at h1
        exact h1
      have qk : W.cell? ⟨g, q * 6, none⟩ = some (.int .i64 kq) := by have h1 := tlw.st.own.cell hxo (show 0 < 6 by omega); rw [Nat.add_zero] at h1; rw [h1, ← hkq]; rfl
      have hgQ : (q : Int) * 6 = ((q * 6 : Nat) : Int) := by omega
      have hql : q < os.length := by omega
      have hge : decide ((o.length : Int) ≤ (pre.length : Int)) = false := decide_eq_false (by omega)
      have hgeN : decide (o.length ≤ pre.length) = false := decide_eq_false (by omega)
      have hpo : pre.length < o.length := by omega
      have hkne : (kq != kq) = false := by simp
      have KKq : Hid (∀ n, Calls Try.prog 11 #[.pointer (some ⟨D2, 0, none⟩), .int .i64 k] (W.drewN n) fun e W' => e = .returned (.int .i64 kq) ∧ W' = W.drewN n) := Lib.hid (fun n => by
        have h := kind_any k (W.drewN n) (tlw.de.below (below_drewN (Below.refl _ W) n))
        rw [hkk] at h
        exact h)
      have HPOST : Hid (∀ (av : Act) (n : Nat) (z : Int), z = ((pre.length + 1 : Nat) : Int) → postT W11.heap.size (KpW (E + 2) W3.heap.size D2 v3 false ys (W11.heap.size + 2)) (fun pre W => Frm (SB (E + 1) W11.heap.size) W11 W ∧ W.heap[E + 1]? = some (.cells #[.int .i64 pre.length] 3 (0, 0))) (pre ++ [(k, d)]) W .normal av ((W.drewN n).setCell ⟨E + 1, 0, none⟩ (.int .i64 z))) := Lib.hid (fun av n z hz => by
        subst hz
        have hdr : Frm (SB (E + 1) W11.heap.size) W (W.drewN n) := Frm.below (below_drewN (Below.refl _ W) n)
        have hdb : ∀ j : Nat, (W.drewN n).heap[j]? = W.heap[j]? := fun j => by rfl
        obtain ⟨g1, g2, g3⟩ := sb_set (u := .int .i64 ((pre.length + 1 : Nat) : Int)) (hf.trans hdr) ((hdb _).trans h12)
        have hsz : (W.drewN n).heap.size = W.heap.size := rfl
        have hfs : Frm (fun k => k = E + 1) W ((W.drewN n).setCell ⟨E + 1, 0, none⟩ (.int .i64 ((pre.length + 1 : Nat) : Int))) := (Frm.below (below_drewN (Below.refl _ W) n)).trans (Frm.set _ rfl)
        refine ⟨⟨(g3 _ (by omega) (by omega)).trans (hdb _), (g3 _ (by omega) (by omega)).trans (hdb _)⟩, ⟨hfs.size, fun k h1 h2 h3 => (g3 k (by omega) (by omega)).trans (hdb _), fun hs => hs.keep hfs (by omega) (fun k hk e => by have := HDLT.out k hk; omega)⟩, g1, ?_⟩
        rw [g2, List.length_append]
        rfl)
      have hpl : pre.length ≤ 1000 := by omega
      clear hf h12 bl rW hcq hpx hsz hp hok hkin hkk hxo hxn hkq hxk tlw hlt hb9 hpm
      gi_wp2
      refine region_round (by kernel_rfl) (by kernel_rfl) (by kernel_rfl) ?_
      repeat (gi_big_quiet_step (first | (gi_at_call 11; exact CallsIn.quiet_of_same (CallsIn.inRound l2 (callsIn_wide.2 (KKq.out _))))))
      refine wpQuietIn_nil ?_
      rintro _ ⟨nq, rfl⟩
      gi_wp2
      exact HPOST.out _ _ _ (by omega)
    case done =>
      rintro D3 W hD ⟨hf, h12⟩ hK
      obtain ⟨hs11, h8e⟩ := S11.out
      obtain ⟨hol1, hol2⟩ := HOL.out
      have tlw := TL11.out.keep hf (fun j e => by
        refine ⟨by unfold SB at e; omega, fun e2 => ?_⟩
        have := HDLT.out j e2
        unfold SB at e
        omega)
      have bl : ∀ {k : Nat} {x : Obj}, k ≠ E + 1 → W11.heap[k]? = some x → W.heap[k]? = some x := fun hk hx => (hf.block _ (Array.getElem?_eq_some_iff.1 hx).1 (by have := (Array.getElem?_eq_some_iff.1 hx).1; unfold SB; omega)).trans hx
      have hwz := hf.size
      -- the node's text grows
      obtain ⟨w3, hw3⟩ : ∃ w3, W.drew = w3 := ⟨_, rfl⟩
      have hb3 : Below W.heap.size W w3 := by rw [← hw3]; exact (Below.refl _ W).drew
      have tl3 := tlw.below hb3
      obtain ⟨A2, ca2, hv3, hle2, hmx2, hg2⟩ := tl3.de.sl
      have hy1l := (List.getElem?_eq_some_iff.1 HY1.out).1
      obtain ⟨g2, rfl, hg20, hg21⟩ := hg2 (by omega)
      subst hv3
      have hdat : y.data = y1.data := by
        have p5 := HCP.out.hd1 (x := y) (y := y1) (by rw [Int.toNat_natCast]; exact HY.out) HY1.out
        unfold ndS at p5
        simp only [Bool.and_eq_true, beq_iff_eq, sm_iff, decide_eq_true_eq] at p5
        exact p5.1.1.1.2
      have hys : y1.data.size ≤ 50 * 60 := by rw [← hdat]; exact tl3.st.data y (List.mem_of_getElem? HY.out)
      obtain ⟨dt, hdt⟩ : ∃ dt, y1.data = dt := ⟨_, rfl⟩
      have cd : w3.cell? ⟨g2, 13, none⟩ = some (.string dt) := by rw [← hdt]; exact tl3.de.cell (j := 3) HY1.out (by omega)
      have fd : w3.frozen? ⟨g2, 13, none⟩ = false := tl3.de.row.frozenAt _
      have c2 := tl3.de.cells.1
      have c8 : w3.cell? ⟨B8, 0, none⟩ = some (.pointer (some ⟨D2, 0, none⟩)) := by rw [cell_of_row _ _ _ _ _ _ tl3.b8]; rfl
      have hft : ¬ 9223372036854775807 < dt.size + 1 := by rw [← hdt]; omega
      have hdA := tl3.de.data_ HY1.out ⟨#[120]⟩
      rw [hdt] at hdA
      obtain ⟨W4', hW4'⟩ : ∃ W4', w3.setCell ⟨g2, 13, none⟩ (.string (dt ++ ⟨#[120]⟩)) = W4' := ⟨_, rfl⟩
      have hf4 : Frm (fun k => k = g2) w3 W4' := by rw [← hW4']; exact Frm.set _ rfl
      rw [show 1 * 10 + 3 = 13 from rfl, hW4'] at hdA
      obtain ⟨v4, tl4⟩ := tl3.adds hdA.adds
      have hg2e : g2 < E := HDLT.out g2 (.inr (.inl rfl))
      have hb3z := hb3.size
      have b4 : ∀ {k : Nat} {x : Obj}, E ≤ k → W.heap[k]? = some x → W4'.heap[k]? = some x := fun hk hx => (hf4.block _ (by have := (Array.getElem?_eq_some_iff.1 hx).1; omega) (by omega)).trans ((hb3.block _ (Array.getElem?_eq_some_iff.1 hx).1).trans hx)
      have e10 := b4 (by omega) (bl (by omega) M0.out)
      have e12 := b4 (by omega) h12
      have eD := b4 (by omega) hK
      have c12 : W4'.cell? ⟨E + 1, 0, none⟩ = some (.int .i64 o.length) := by rw [cell_of_row _ _ _ _ _ _ e12, hol1]; rfl
      have c10 : W4'.cell? ⟨E, 0, none⟩ = some (.slice A1 o.length c1) := by rw [cell_of_row _ _ _ _ _ _ e10]; rfl
      have c84 : W4'.cell? ⟨B8, 0, none⟩ = some (.pointer (some ⟨D2, 0, none⟩)) := by rw [cell_of_row _ _ _ _ _ _ tl4.b8]; rfl
      have hz1 : (setD ys 1 ⟨#[120]⟩)[1]? = some { y1 with data := y1.data ++ ⟨#[120]⟩ } := by
        unfold setD
        rw [HY1.out]
        exact List.getElem?_set_self hy1l
      have hsm := sm_no (xs := ns) (ys := setD ys 1 ⟨#[120]⟩) HY.out hz1 (by
        rw [Bool.and_eq_false_iff]
        left
        cases hh : ndS y { y1 with data := y1.data ++ (⟨#[120]⟩ : ByteArray) } with
        | false => rfl
        | true =>
          exfalso
          unfold ndS at hh
          simp only [Bool.and_eq_true, beq_iff_eq, sm_iff, decide_eq_true_eq] at hh
          have h1 := hh.1.1.1.2
          rw [hdat] at h1
          exact cat_ne _ h1) 0
      have hnsm : ∀ z ∈ ns, z.attrs.length ≤ 1000000 ∧ z.kids.length ≤ 1000000 := fun z hz => ⟨by rw [HAT.out z hz]; simp, by have := tl3.st.kids z hz; omega⟩
      have KS := Lib.hid (Same_any (i : Int) 1 false 0 W4' tl4.st.doc tl4.de hnsm (by omega) hsm)
      have TL4 := Lib.hid tl4
      have ED := Lib.hid eD
      have HD := Lib.hid hD
      have hy1i : (1 : Int) < (ys.length : Int) := by omega
      have deq : ((o.length : Int) == (o.length : Int)) = true := by simp
      have HW4 := Lib.hid hW4'
      clear hf h12 hK tlw bl hwz hb3 tl3 hle2 hmx2 hg2 hg20 hg21 hdat hys hdA hf4 tl4 hg2e b4 e10 e12 eD hz1 hsm hnsm hD hdt hb3z hW4' hyl HSE
      go_wp2_with fail
      go_still_tail 16, (by kernel_rfl)
      change wpList _ _ _ _ _ W.drew
      rw [hw3]
      go_upto_region 21 with fail
      rw [HW4.out]
      clear hw3 cd fd c2 c8 hft
      go_wp2_with fail
      refine KS.out.mono ?_
      rintro e W13 ⟨rfl, hb13⟩
      have tl13 := TL4.out.below hb13
      have c6 : W13.cell? ⟨B6, 0, none⟩ = some (.slice (some ⟨g, 0, none⟩) os.length cv) := by rw [cell_of_row _ _ _ _ _ _ tl13.b6]; rfl
      have KA := Lib.hid (agree_any tl13.st (Nat.le_refl _))
      have TL13 := Lib.hid tl13
      have ED13 := Lib.hid ((hb13.block _ (Array.getElem?_eq_some_iff.1 ED.out).1).trans ED.out)
      clear tl13 hb13 KS TL4 ED c12 c10 c84
      go_wp2_with fail
      refine KA.out.mono ?_
      rintro e W14 ⟨rfl, hb14⟩
      have tl14 := TL13.out.below hb14
      have c6 : W14.cell? ⟨B6, 0, none⟩ = some (.slice (some ⟨g, 0, none⟩) os.length cv) := by rw [cell_of_row _ _ _ _ _ _ tl14.b6]; rfl
      have c8 : W14.cell? ⟨B8, 0, none⟩ = some (.pointer (some ⟨D2, 0, none⟩)) := by rw [cell_of_row _ _ _ _ _ _ tl14.b8]; rfl
      have f4 : W14.frozen? ⟨w.heap.size, 0, none⟩ = false := by simp [World.frozen?, tl14.b5]
      have c4 : W14.cell? ⟨w.heap.size, 0, none⟩ = some (.bool false) := by rw [cell_of_row _ _ _ _ _ _ tl14.b5]; rfl
      have hnin : inN ns (os.length : Int) = false := by
        cases hh : inN ns (os.length : Int) with
        | false => rfl
        | true =>
          obtain ⟨j, z, e, hz⟩ := inN_at hh
          have := (List.getElem?_eq_some_iff.1 hz).1
          have := tl14.st.len2
          omega
      have KN := Lib.hid (take_none D2 (os.length : Int) W14 tl14.st.doc (.inl hnin))
      have eD := (hb14.block _ (Array.getElem?_eq_some_iff.1 ED13.out).1).trans ED13.out
      have hp0 := tl14.plt
      have hpb := tl14.bl
      have hD3 := HD.out
      have HFIN : Hid (∀ u, (W14.setCell ⟨w.heap.size, 0, none⟩ u).heap[D3]? = some (.deferred (some [])) ∧ (W14.setCell ⟨w.heap.size, 0, none⟩ u).heap[w.heap.size]? = some (.cells #[u] 4 (0, 0)) ∧ Below w.heap.size w (W14.setCell ⟨w.heap.size, 0, none⟩ u) ∧ w.heap.size < D3) := Lib.hid (fun u => by
        have hfs : Frm (fun k => k = w.heap.size) W14 (W14.setCell ⟨w.heap.size, 0, none⟩ u) := Frm.set _ rfl
        have hbw : Below w.heap.size w W14 := HBW.out.trans (tl14.bw.mono (by omega))
        exact ⟨(hfs.block _ (Array.getElem?_eq_some_iff.1 eD).1 (by omega)).trans eD, heap_setCell_same _ _ 0 _ _ _ tl14.b5, hbw.trans (hfs.toBelow hbw.size (fun k e => by omega)), by omega⟩)
      clear tl14 hb14 KA TL13 ED13 eD hnin hp0 hpb hD3
      go_wp2_with fail
      refine KN.out.mono ?_
      rintro e w15 ⟨rfl, hw15⟩
      rw [hw15]
      clear hw15 w15 KN
      go_wp2
      obtain ⟨t3, t1, tb, hlt⟩ := HFIN.out (.bool true)
      have hput : ∀ (X : World) (l : Nat) (o' : Obj), w.heap.size ≤ l → Below w.heap.size w X → Below w.heap.size w (X.putObj l o') := fun X l o' hl hb => hb.grown (grownBy_putObj' X l o') hb.size (fun k e => by cases e; exact hl)
      refine ⟨by simp, .inl ⟨_, _, rfl, run_takeDeferred t3, ?_⟩⟩
      refine ⟨.bool true, ?_, rfl, hput _ _ _ (by omega) tb⟩
      have c1' : ∀ o1, ((W14.setCell ⟨w.heap.size, 0, none⟩ (.bool true)).putObj D3 o1).cell? ⟨w.heap.size, 0, none⟩ = some (.bool true) := fun o1 => by
        rw [cell_of_row _ _ _ _ _ _ ((World.putObj_heap_other (show w.heap.size ≠ D3 by omega)).trans t1)]
        rfl
      simp [results, Try.f7, go_sem, c1']
end Go.Proofs.Ytodlcfhkiilpgaa
