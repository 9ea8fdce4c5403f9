/- A node put, in what the laws of layer 8 keep. -/
import Derived.Test.YtodlcfhkiilpgaaZH
namespace Go.Proofs.Ytodlcfhkiilpgaa
open Go.RowKit Go.Shelf Go.Lib
attribute [local go_sem] Oper.semAt_some

theorem in_any (n : Int) (B : Nat) (A : Option Addr) (m c : Nat) (W : World) (hB : W.heap[B]? = some (.cells #[.slice A m c] 45 (0, 0))) :
    Calls Try.prog 79 #[.int .i64 n, .pointer (some ⟨B, 0, none⟩)] W fun e W' => e = .returned (.bool (decide (0 ≤ n) && decide (n < (m : Int)))) ∧ W' = W := by
  have c0 : W.cell? ⟨B, 0, none⟩ = some (.slice A m c) := by rw [cell_of_row _ _ _ _ _ _ hB]; rfl
  clear hB
  by_cases h0 : 0 ≤ n
  · have d0 : decide (0 ≤ n) = true := decide_eq_true h0
    rw [d0, Bool.true_and]
    obtain ⟨b, hb⟩ : ∃ b, decide (n < (m : Int)) = b := ⟨_, rfl⟩
    rw [hb]
    go_enter Try.func79, Try.ntmps79
    go_wp2
    go_ret
    exact ⟨rfl, rfl⟩
  · have d0 : decide (0 ≤ n) = false := decide_eq_false h0
    rw [d0, Bool.false_and]
    clear h0
    go_enter Try.func79, Try.ntmps79
    go_wp2
    go_ret
    exact ⟨rfl, rfl⟩
section
variable {base : Nat} {v : Value} {os : List Ow}
/-- a list of numbers, as a node's kids lie -/
theorem kid_form {W : World} (h : OwM base v os W) {i : Nat} {x : Ow} (hx : os[i]? = some x) : ∃ A c, x.kv = .slice A x.pl.kids.length c ∧ x.pl.kids.length ≤ c ∧ c ≤ maxLen ∧ ((A = none ∧ c = 0) ∨ ∃ b o, A = some ⟨b, o, none⟩) ∧ Rd W .i64 A x.pl.kids := by
  obtain ⟨A1, c1, e1, _, hKle, hA1, hr⟩ := Rd.own (h.kids i x hx)
  rcases (h.kids i x hx).2 with ⟨e2, _⟩ | ⟨g, cap, cur, e2, _, _, _, hm, _⟩
  · rw [e1] at e2; injection e2 with e3 _ e2; subst e3 e2; exact ⟨none, 0, e1, hKle, Nat.zero_le _, .inl ⟨rfl, rfl⟩, hr⟩
  · rw [e1] at e2; injection e2 with e3 _ e2; subst e3 e2; exact ⟨_, _, e1, hKle, hm, .inr ⟨_, _, rfl⟩, hr⟩
def LPut (base : Nat) (v : Value) (os : List Ow) (up n before : Int) (W : World) (e : Ending) (W' : World) : Prop :=
  ∃ os', e = .returned (.int .i64 (putEQ (os.map Ow.pl) up n before)) ∧ os'.map Ow.pl = putQ (os.map Ow.pl) up n before ∧ TrO base v os os' W W'
theorem LPut.bad {up n before : Int} {W W' : World} (h : OwM base v os W) (hb : Below W.heap.size W W') (hq : badQ (os.map Ow.pl) up n before = true) : LPut base v os up n before W (.returned (.int .i64 1)) W' := by
  have e : putEQ (os.map Ow.pl) up n before = 1 := by unfold putEQ; rw [if_pos hq]
  exact ⟨os, by rw [e], by unfold putQ; rw [if_neg (by rw [e]; omega)], TrO.ofBelow h hb⟩
theorem idx_out {ps : List Pl} (h : Tr ps) {i p : Nat} {x y : Pl} (hx : ps[i]? = some x) (hy : ps[p]? = some y) {before : Int} (hne : before ≠ i) (hm : before ∈ y.kids) : ∃ (y1 : Pl) (k : Nat), (outQ ps i)[p]? = some y1 ∧ Lib.idxOf y1.kids before = (k : Int) ∧ k ≤ y1.kids.length := by
  obtain ⟨k, hk, hg⟩ := idx_mem (l := y.kids.erase (i : Int)) (n := before) ((List.mem_erase_of_ne hne).2 hm)
  exact ⟨_, k, outQ_at h hx p y hy, hk, Nat.le_of_lt (List.getElem?_eq_some_iff.1 hg).1⟩
set_option maxRecDepth 100000 in
set_option maxHeartbeats 4000000 in
theorem lput_any (up n before : Int) (W : World) (h : OwM base v os W) (ht : Tr (os.map Ow.pl)) (hb : base ≤ W.heap.size) (hl : os.length ≤ 1000000) :
    Calls Try.prog 53 #[v, .int .i64 up, .int .i64 n, .int .i64 before] W (LPut base v os up n before W) := by
  obtain ⟨Av, c, hv, hle, hmx, hgv⟩ := h.sl
  subst hv
  obtain ⟨W1, hW1⟩ : ∃ W1, W.alloc (.cells #[.slice Av os.length c] 45) = W1 := ⟨_, rfl⟩
  have hb1 : Below W.heap.size W W1 := by rw [← hW1]; exact (Below.refl _ W).alloc (Nat.le_refl _) _
  have hs1 : W1.heap.size = W.heap.size + 1 := by rw [← hW1, World.size_alloc]
  have g0 : W1.heap[W.heap.size]? = some (.cells #[.slice Av os.length c] 45 (0, 0)) := by rw [← hW1]; exact heap_alloc_new W _
  have KU := Lib.hid (in_any up W.heap.size Av os.length c W1 g0)
  have KN := Lib.hid (in_any n W.heap.size Av os.length c W1 g0)
  have cB : W1.cell? ⟨W.heap.size, 0, none⟩ = some (.slice Av os.length c) := by rw [cell_of_row _ _ _ _ _ _ g0]; rfl
  have BAD := Lib.hid (fun hq => LPut.bad (up := up) (n := n) (before := before) h hb1 hq)
  have h1 := h.below hb1
  have iu : (decide (0 ≤ up) && decide (up < (os.length : Int))) = inQ (os.map Ow.pl) up := by unfold inQ; rw [List.length_map]
  have in_ : (decide (0 ≤ n) && decide (n < (os.length : Int))) = inQ (os.map Ow.pl) n := by unfold inQ; rw [List.length_map]
  rw [iu] at KU
  rw [in_] at KN
  have G0 := Lib.hid g0
  have HB1 := Lib.hid hb1
  have HS1 := Lib.hid hs1
  clear iu in_ g0 hb1 hs1
  subst hW1
  cases hu : inQ (os.map Ow.pl) up with
  | false =>
    rw [hu] at KU
    have HB := Lib.hid (BAD.out (by unfold badQ; rw [hu]; rfl))
    clear hu h h1 ht KN BAD hgv hmx
    go_enter Try.func53, Try.ntmps53
    go_wp2_with fail
    refine KU.out.mono ?_
    rintro e w1 ⟨rfl, rfl⟩
    go_wp2
    go_ret
    exact HB.out
  | true =>
    rw [hu] at KU
    obtain ⟨p, y', rfl, hy'⟩ := inQ_at hu
    obtain ⟨y, hy, hyp⟩ := ow_get rfl hy'
    subst hyp
    have hpl := (List.getElem?_eq_some_iff.1 hy).1
    obtain ⟨g, rfl, hbg, hgl⟩ := hgv (by omega)
    cases hn : inQ (os.map Ow.pl) n with
    | false =>
      rw [hn] at KN
      have HB := Lib.hid (BAD.out (by unfold badQ; rw [hu, hn]; rfl))
      clear hu hn h h1 ht BAD hgv hmx hy hy'
      go_enter Try.func53, Try.ntmps53
      go_wp2_with fail
      refine KU.out.mono ?_
      rintro e w1 ⟨rfl, rfl⟩
      go_wp2_with fail
      refine KN.out.mono ?_
      rintro e w1 ⟨rfl, rfl⟩
      go_wp2
      go_ret
      exact HB.out
    | true =>
      rw [hn] at KN
      obtain ⟨i, x', rfl, hx'⟩ := inQ_at hn
      obtain ⟨x, hx, hxp⟩ := ow_get rfl hx'
      subst hxp
      have hil := (List.getElem?_eq_some_iff.1 hx).1
      have hgI : (i : Int) * 6 = ((i * 6 : Nat) : Int) := by omega
      have hgP : (p : Int) * 6 = ((p * 6 : Nat) : Int) := by omega
      have ck : (W.alloc (.cells #[.slice (some ⟨g, 0, none⟩) os.length c] 45)).cell? ⟨g, i * 6 + 0, none⟩ = some (.int .i64 x.pl.kind) := h1.cell hx (show 0 < 6 by omega)
      have cy : (W.alloc (.cells #[.slice (some ⟨g, 0, none⟩) os.length c] 45)).cell? ⟨g, p * 6 + 0, none⟩ = some (.int .i64 y.pl.kind) := h1.cell hy (show 0 < 6 by omega)
      rw [Nat.add_zero] at ck cy
      have hkn : pAt (os.map Ow.pl) (i : Int) Pl.kind 0 = x.pl.kind := pAt_some hx'
      have hkp : pAt (os.map Ow.pl) (p : Int) Pl.kind 0 = y.pl.kind := pAt_some hy'
      have KB := beneath_any (i : Int) (p : Int) _ h1 ht hl (by omega) (by omega)
      have hdp : plQ (os.map Ow.pl) (p : Int) before = if before = -1 then (y.pl.kids.length : Int) else Lib.idxOf y.pl.kids before := by unfold plQ; rw [pAt_some hy']
      obtain ⟨kx, hkx⟩ : ∃ k, x.pl.kind = k := ⟨_, rfl⟩
      obtain ⟨ky, hky⟩ : ∃ k, y.pl.kind = k := ⟨_, rfl⟩
      rw [hkx] at ck hkn
      rw [hky] at cy hkp
      clear hgv
      by_cases hk1 : kx = 1
      · have d1 : (kx == 1) = true := by rw [hk1]; rfl
        have HB := Lib.hid (BAD.out (by unfold badQ; rw [hu, hn, hkn, d1]; rfl))
        clear hu hn h h1 ht BAD hmx hy hy' hx hx' hkn hkp hk1 hkx hky KB hdp
        go_enter Try.func53, Try.ntmps53
        go_wp2_with fail
        refine KU.out.mono ?_
        rintro e w1 ⟨rfl, rfl⟩
        go_wp2_with fail
        refine KN.out.mono ?_
        rintro e w1 ⟨rfl, rfl⟩
        go_wp2
        go_ret
        exact HB.out
      · have d1 : (kx == 1) = false := by rw [beq_eq_false_iff_ne]; exact hk1
        by_cases hbn : before = i
        · have d2 : (before == (i : Int)) = true := by rw [hbn]; simp
          have HB := Lib.hid (BAD.out (by unfold badQ; rw [hu, hn, hkn, d1, d2]; rfl))
          clear hu hn h h1 ht BAD hmx hy hy' hx hx' hkn hkp hk1 hkx hky KB hdp hbn
          go_enter Try.func53, Try.ntmps53
          go_wp2_with fail
          refine KU.out.mono ?_
          rintro e w1 ⟨rfl, rfl⟩
          go_wp2_with fail
          refine KN.out.mono ?_
          rintro e w1 ⟨rfl, rfl⟩
          go_wp2
          go_ret
          exact HB.out
        · have d2 : (before == (i : Int)) = false := by rw [beq_eq_false_iff_ne]; exact hbn
          cases hky2 : decide (2 < ky) with
          | true =>
            have HB := Lib.hid (BAD.out (by unfold badQ; rw [hu, hn, hkn, hkp, d1, d2, hky2]; rfl))
            clear hu hn h h1 ht BAD hmx hy hy' hx hx' hkn hkp hk1 hkx hky KB hdp hbn
            go_enter Try.func53, Try.ntmps53
            go_wp2_with fail
            refine KU.out.mono ?_
            rintro e w1 ⟨rfl, rfl⟩
            go_wp2_with fail
            refine KN.out.mono ?_
            rintro e w1 ⟨rfl, rfl⟩
            go_wp2
            go_ret
            exact HB.out
          | false =>
            cases hw : ben (os.map Ow.pl) (i : Int) (p : Int) with
            | true =>
              rw [hw] at KB
              replace KB := Lib.hid KB
              have HB := Lib.hid (BAD.out (by unfold badQ; rw [hu, hn, hkn, hkp, d1, d2, hky2, hw]; rfl))
              clear hu hn h h1 ht BAD hmx hy hy' hx hx' hkn hkp hk1 hkx hky hdp hbn hw
              go_enter Try.func53, Try.ntmps53
              go_wp2_with fail
              refine KU.out.mono ?_
              rintro e w1 ⟨rfl, rfl⟩
              go_wp2_with fail
              refine KN.out.mono ?_
              rintro e w1 ⟨rfl, rfl⟩
              go_wp2_with fail
              refine KB.out.mono ?_
              rintro e w1 ⟨rfl, rfl⟩
              go_wp2
              go_ret
              exact HB.out
            | false =>
              rw [hw] at KB
              replace KB := Lib.hid KB
              have HNB : Hid (badQ (os.map Ow.pl) (p : Int) (i : Int) before = false) := Lib.hid (by unfold badQ; rw [hu, hn, hkn, hkp, d1, d2, hky2, hw]; rfl)
              by_cases hb1 : before = -1
              · subst hb1
                have hdp : plQ (os.map Ow.pl) (p : Int) (-1) = (y.pl.kids.length : Int) := by rw [hdp, if_pos rfl]
                have HE0 : Hid (putEQ (os.map Ow.pl) (p : Int) (i : Int) (-1) = 0) := Lib.hid (by unfold putEQ; rw [HNB.out, if_neg (by decide), if_neg (by omega)])
                have KO := lout_any i x (W.alloc (.cells #[.slice (some ⟨g, 0, none⟩) os.length c] 45)) h1 ht hx hl
                replace KO := Lib.hid KO
                have HT := Lib.hid ht
                have HX' := Lib.hid hx'
                have hy1' := outQ_at ht hx' p y.pl hy'
                have HY1' := Lib.hid hy1'
                clear hu hn h h1 ht BAD hmx hy hy' hx hx' hkn hkp hk1 hkx hky hdp hbn hw hy1'
                go_enter Try.func53, Try.ntmps53
                go_wp2_with fail
                refine KU.out.mono ?_
                rintro e w1 ⟨rfl, rfl⟩
                go_wp2_with fail
                refine KN.out.mono ?_
                rintro e w1 ⟨rfl, rfl⟩
                go_wp2_with fail
                refine KB.out.mono ?_
                rintro e w1 ⟨rfl, rfl⟩
                go_wp2_with fail
                refine KO.out.mono ?_
                rintro e W2 ⟨rfl, os1, hos1, hO1⟩
                have hl1 : os1.length = os.length := by rw [ow_len hos1, outQ_len, List.length_map]
                have hO1' := hO1.1
                rw [← hl1] at hO1'
                obtain ⟨y1, hy1, hyy⟩ := ow_get hos1 HY1'.out
                obtain ⟨A1, cp1, e1, hKle, hKmx, hA1, hr⟩ := kid_form hO1.1 hy1
                have hK6 : y1.pl.kids.length ≤ 1000000 := by
                  have := (outQ_tr HT.out HX'.out).kids_le (show (outQ (os.map Ow.pl) i)[p]? = some y1.pl by rw [← hos1, List.getElem?_map, hy1]; rfl)
                  rw [outQ_len, List.length_map] at this
                  omega
                have c4 : W2.cell? ⟨g, p * 6 + 4, none⟩ = some (.slice A1 y1.pl.kids.length cp1) := by
                  have := hO1'.cell hy1 (show 4 < 6 by omega)
                  simp only [Ow.cs, List.getElem?_cons_succ, List.getElem?_cons_zero, e1] at this
                  exact this
                have f4 : W2.frozen? ⟨g, p * 6 + 4, none⟩ = false := hO1'.row.frozenAt _
                have hgl2 : g < W2.heap.size := (hO1'.row.lt g rfl).2
                have gB2 : W2.heap[W.heap.size]? = some (.cells #[.slice (some ⟨g, 0, none⟩) os.length c] 45 (0, 0)) := (hO1.2.1.block W.heap.size (by rw [HS1.out]; omega) (fun e => by simp [Value.ownBlock] at e; omega)).trans G0.out
                have cB2 : W2.cell? ⟨W.heap.size, 0, none⟩ = some (.slice (some ⟨g, 0, none⟩) os.length c) := by rw [cell_of_row _ _ _ _ _ _ gB2]; rfl
                have hB2 : W.heap.size < W2.heap.size := (Array.getElem?_eq_some_iff.1 gB2).1
                have hkle : y1.pl.kids.length ≤ y1.pl.kids.length := Nat.le_refl _
                obtain ⟨k, hk⟩ : ∃ k, y1.pl.kids.length = k := ⟨_, rfl⟩
                have HPL : Hid (plQ (outQ (os.map Ow.pl) (i : Int)) (p : Int) (-1) = (k : Int)) := Lib.hid (by
                  unfold plQ
                  rw [if_pos rfl, pAt_some (x := y1.pl) (by rw [← hos1, List.getElem?_map, hy1]; rfl), hk])
                have hkle : k ≤ y1.pl.kids.length := by omega
                have HKK := Lib.hid hk
                have KWI := (with_any y1.pl.kids k (i : Int) A1 cp1 W2.drew (hr.below (Below.refl _ W2).drew) hA1 hkle hK6 hKle hKmx)
                have FX := (fun (w3 : World) (hb : Below W2.drew.heap.size W2.drew w3) => show w3.cell? ⟨W.heap.size, 0, none⟩ = some (.slice (some ⟨g, 0, none⟩) os.length c) ∧ w3.frozen? ⟨g, p * 6 + 4, none⟩ = false ∧ w3.cell? ⟨g, p * 6 + 4, none⟩ = some (.slice A1 y1.pl.kids.length cp1) by
                  have hG : w3.heap[g]? = W2.heap[g]? := hb.block g hgl2
                  have hB : w3.heap[W.heap.size]? = W2.heap[W.heap.size]? := hb.block _ hB2
                  refine ⟨(World.cell?_of_block (a := ⟨W.heap.size, 0, none⟩) hB).trans cB2, ?_, (World.cell?_of_block (a := ⟨g, p * 6 + 4, none⟩) hG).trans c4⟩
                  have := f4
                  unfold World.frozen? at this ⊢
                  rw [hG]
                  exact this)
                have HO1 := Lib.hid hO1
                have HO1' := Lib.hid hO1'
                have HY1 := Lib.hid hy1
                have HOS1 := Lib.hid hos1
                have HL1 := Lib.hid hl1
                have HGB2 := Lib.hid gB2
                have hgP : (p : Int) * 6 = ((p * 6 : Nat) : Int) := by omega
                clear hy1 hos1 hl1 hO1 hO1' hr hA1 e1 hkle gB2 f4 hyy
                rw [hk] at c4 KWI FX
                clear hk
                replace KWI := Lib.hid KWI
                replace FX := Lib.hid FX
                go_wp2_with fail
                go_region_law (first | (go_simp; go_at_call 81; refine KWI.out.mono ?_; rintro e w3 ⟨v3, rfl, ho3, hb3⟩; obtain ⟨A3, c3, hv3⟩ := own_slice ho3; subst hv3; obtain ⟨cD3, cF3, cE3⟩ := FX.out w3 hb3))
                all_goals
                  have hb3' : Below W2.heap.size W2 w3 := ((Below.refl _ W2).drew).trans hb3
                  have h3 := HO1'.out.below hb3'
                  have hbs : base ≤ W2.heap.size := by omega
                  have ho3' : w3.ownsRow base 3 1 (.slice A3 (insL y1.pl.kids k (i : Int)).length c3) (insL y1.pl.kids k (i : Int)).length ((insL y1.pl.kids k (i : Int)).map (Value.int .i64)) := own_move ho3 (fun _ _ => rfl) hbs
                  obtain ⟨y2, hy2⟩ : ∃ y2, Ow.mk { y1.pl with kids := insL y1.pl.kids k (i : Int) } (.slice A3 (insL y1.pl.kids k (i : Int)).length c3) = y2 := ⟨_, rfl⟩
                  have T1 := h3.upd (x' := y2) (u := .slice A3 (insL y1.pl.kids k (i : Int)).length c3) HY1.out (show 4 < 6 by omega) (by rw [← hy2]; rfl) (by rw [← hy2]; exact ho3')
                  have N1 := OB.set (v := .slice (some ⟨g, 0, none⟩) os.length c) (x' := y2) (B := W.heap.size) HY1.out (fun q e => .inr (by
                    rw [← hy2] at e
                    have h9 := (ho3.lt q e).1
                    have h8 : W2.drew.heap.size = W2.heap.size := rfl
                    omega))
                  obtain ⟨W3, hW3⟩ : ∃ W3, w3.setCell ⟨g, p * 6 + 4, none⟩ (.slice A3 (insL y1.pl.kids k (i : Int)).length c3) = W3 := ⟨_, rfl⟩
                  have hp1 : (os1.set p y2).map Ow.pl = md (os1.map Ow.pl) p (fun z => { z with kids := insL z.kids k (i : Int) }) := setO_pl HY1.out (by rw [← hy2])
                  obtain ⟨os2, hos2⟩ : ∃ os2, os1.set p y2 = os2 := ⟨_, rfl⟩
                  have hl2 : os2.length = os1.length := by rw [← hos2, List.length_set]
                  rw [hW3, hos2] at T1
                  rw [hos2] at N1 hp1
                  obtain ⟨h4, hf4⟩ := T1
                  rw [← hl2] at h4
                  obtain ⟨x2, hx2⟩ : ∃ x2, os2[i]? = some x2 := ⟨_, List.getElem?_eq_getElem (by rw [hl2, HL1.out]; exact hil)⟩
                  have c33 : W3.cell? ⟨g, i * 6 + 3, none⟩ = some (.int .i64 x2.pl.up) := h4.cell hx2 (show 3 < 6 by omega)
                  have f33 : W3.frozen? ⟨g, i * 6 + 3, none⟩ = false := h4.row.frozenAt _
                  obtain ⟨x3, hx3⟩ : ∃ x3, Ow.mk { x2.pl with up := (p : Int) } x2.kv = x3 := ⟨_, rfl⟩
                  have T2 := h4.upd (x' := x3) (u := .int .i64 (p : Int)) hx2 (show 3 < 6 by omega) (by rw [← hx3]; rfl) (by rw [← hx3]; exact h4.kids i x2 hx2)
                  have N2 := OB.set (v := .slice (some ⟨g, 0, none⟩) os.length c) (x' := x3) (B := W.heap.size) hx2 (fun q e => .inl (by rw [← hx3] at e; exact e))
                  have hp2 : (os2.set i x3).map Ow.pl = md (os2.map Ow.pl) i (fun z => { z with up := (p : Int) }) := setO_pl hx2 (by rw [← hx3])
                  obtain ⟨h5, hf5⟩ := T2
                  rw [hl2, HL1.out] at h5 hf5
                  rw [HL1.out] at hf4
                  have gB3 : W3.heap[W.heap.size]? = some (.cells #[.slice (some ⟨g, 0, none⟩) os.length c] 45 (0, 0)) := (hf4.block W.heap.size (by have := hb3'.size; omega) (fun e => by simp [Value.ownBlock] at e; omega)).trans ((hb3'.block W.heap.size hB2).trans HGB2.out)
                  have cB3 : W3.cell? ⟨W.heap.size, 0, none⟩ = some (.slice (some ⟨g, 0, none⟩) os.length c) := by rw [cell_of_row _ _ _ _ _ _ gB3]; rfl
                  have HP2 : Hid ((os2.set i x3).map Ow.pl = putQ (os.map Ow.pl) (p : Int) (i : Int) (-1)) := Lib.hid (by
                    unfold putQ
                    rw [if_pos HE0.out, Int.toNat_natCast, Int.toNat_natCast, HPL.out, Int.toNat_natCast, ← HOS1.out]
                    unfold attQ
                    rw [hp2, hp1])
                  have HR : Hid (TrO base (.slice (some ⟨g, 0, none⟩) os.length c) os (os2.set i x3) W (W3.setCell ⟨g, i * 6 + 3, none⟩ (.int .i64 (p : Int)))) := Lib.hid ⟨h5, (((Frm.below HB1.out).trans HO1.out.2.1).trans (Frm.below hb3')).trans (hf4.trans hf5), fun q e => by
                    rcases N2 q e with e | e
                    · rcases N1 q e with e | e
                      · rcases HO1.out.2.2 q e with e | e
                        · exact .inl e
                        · exact .inr (by rw [HS1.out] at e; omega)
                      · exact .inr e
                    · exact .inr e⟩
                  clear hb3' h3 ho3 ho3' N1 N2 hp1 hp2 h4 hf4 h5 hf5 hb3 cD3 cF3 cE3 FX HO1 HO1' hx2 hos2 hl2 hx3 hy2 KWI gB3 HGB2 G0
                  go_wp2
                  go_ret
                  exact ⟨os2.set i x3, by rw [HE0.out]; rfl, HP2.out, HR.out⟩
              · have d3 : (before != -1) = true := by rw [bne_iff_ne]; exact hb1
                rw [if_neg hb1] at hdp
                obtain ⟨A0, c00, e0, hK0le, hK0mx, _, hr0⟩ := kid_form h1 hy
                have hK06 : y.pl.kids.length ≤ 1000000 := by
                  have := ht.kids_le hy'
                  rw [List.length_map] at this
                  omega
                have c40 : (W.alloc (.cells #[.slice (some ⟨g, 0, none⟩) os.length c] 45)).cell? ⟨g, p * 6 + 4, none⟩ = some (.slice A0 y.pl.kids.length c00) := by
                  have := h1.cell hy (show 4 < 6 by omega)
                  simp only [Ow.cs, List.getElem?_cons_succ, List.getElem?_cons_zero, e0] at this
                  exact this
                have KA0 := at_any y.pl.kids before A0 c00 _ hr0 hK06
                by_cases hq : Lib.idxOf y.pl.kids before < 0
                · have hq1 : Lib.idxOf y.pl.kids before = -1 := by rcases idx_cases y.pl.kids before with h | ⟨_, h, _⟩ <;> omega
                  rw [hq1] at KA0
                  replace KA0 := Lib.hid KA0
                  have d4 : decide ((-1 : Int) < 0) = true := by decide
                  have e4 : putEQ (os.map Ow.pl) (p : Int) (i : Int) before = 4 := by unfold putEQ; rw [HNB.out, if_neg (by decide), hdp, if_pos hq]
                  have HB : Hid (LPut base (.slice (some ⟨g, 0, none⟩) os.length c) os (p : Int) (i : Int) before W (.returned (.int .i64 4)) (W.alloc (.cells #[.slice (some ⟨g, 0, none⟩) os.length c] 45))) := Lib.hid ⟨os, by rw [e4], by unfold putQ; rw [if_neg (by rw [e4]; omega)], TrO.ofBelow h HB1.out⟩
                  clear hu hn h h1 ht BAD hmx hy hy' hx hx' hkn hkp hk1 hkx hky hdp hbn hw hb1 hq hq1 e0 hr0 e4
                  go_enter Try.func53, Try.ntmps53
                  go_wp2_with fail
                  refine KU.out.mono ?_
                  rintro e w1 ⟨rfl, rfl⟩
                  go_wp2_with fail
                  refine KN.out.mono ?_
                  rintro e w1 ⟨rfl, rfl⟩
                  go_wp2_with fail
                  refine KB.out.mono ?_
                  rintro e w1 ⟨rfl, rfl⟩
                  go_wp2_with fail
                  refine KA0.out.mono ?_
                  rintro e w1 ⟨rfl, rfl⟩
                  go_wp2
                  go_ret
                  exact HB.out
                · obtain ⟨k0, hq0, hkg⟩ : ∃ k0 : Nat, Lib.idxOf y.pl.kids before = (k0 : Int) ∧ y.pl.kids[k0]? = some before := by rcases idx_cases y.pl.kids before with h | h; omega; exact h
                  rw [hq0] at KA0
                  replace KA0 := Lib.hid KA0
                  have d4 : decide ((k0 : Int) < 0) = false := decide_eq_false (by omega)
                  have HE0 : Hid (putEQ (os.map Ow.pl) (p : Int) (i : Int) before = 0) := Lib.hid (by unfold putEQ; rw [HNB.out, if_neg (by decide), hdp, if_neg hq])
                  obtain ⟨y1', k, hy1', hk1', hkle'⟩ := idx_out ht hx' hy' hbn (List.mem_of_getElem? hkg)
                  have HY1' := Lib.hid hy1'
                  have HK1' := Lib.hid hk1'
                  have HKL' := Lib.hid hkle'
                  have HNB1 := Lib.hid hb1
                  have KO := lout_any i x (W.alloc (.cells #[.slice (some ⟨g, 0, none⟩) os.length c] 45)) h1 ht hx hl
                  replace KO := Lib.hid KO
                  have HT := Lib.hid ht
                  have HX' := Lib.hid hx'
                  clear hu hn h h1 ht BAD hmx hy hy' hx hx' hkn hkp hk1 hkx hky hdp hbn hw hb1 hq hq0 e0 hr0 hkg hy1' hk1' hkle'
                  go_enter Try.func53, Try.ntmps53
                  go_wp2_with fail
                  refine KU.out.mono ?_
                  rintro e w1 ⟨rfl, rfl⟩
                  go_wp2_with fail
                  refine KN.out.mono ?_
                  rintro e w1 ⟨rfl, rfl⟩
                  go_wp2_with fail
                  refine KB.out.mono ?_
                  rintro e w1 ⟨rfl, rfl⟩
                  go_wp2_with fail
                  refine KA0.out.mono ?_
                  rintro e w1 ⟨rfl, rfl⟩
                  go_wp2_with fail
                  refine KO.out.mono ?_
                  rintro e W2 ⟨rfl, os1, hos1, hO1⟩
                  have hl1 : os1.length = os.length := by rw [ow_len hos1, outQ_len, List.length_map]
                  have hO1' := hO1.1
                  rw [← hl1] at hO1'
                  obtain ⟨y1, hy1, hyy⟩ := ow_get hos1 HY1'.out
                  subst hyy
                  obtain ⟨A1, cp1, e1, hKle, hKmx, hA1, hr⟩ := kid_form hO1.1 hy1
                  have hK6 : y1.pl.kids.length ≤ 1000000 := by
                    have := (outQ_tr HT.out HX'.out).kids_le (show (outQ (os.map Ow.pl) i)[p]? = some y1.pl by rw [← hos1, List.getElem?_map, hy1]; rfl)
                    rw [outQ_len, List.length_map] at this
                    omega
                  have c4 : W2.cell? ⟨g, p * 6 + 4, none⟩ = some (.slice A1 y1.pl.kids.length cp1) := by
                    have := hO1'.cell hy1 (show 4 < 6 by omega)
                    simp only [Ow.cs, List.getElem?_cons_succ, List.getElem?_cons_zero, e1] at this
                    exact this
                  have f4 : W2.frozen? ⟨g, p * 6 + 4, none⟩ = false := hO1'.row.frozenAt _
                  have hgl2 : g < W2.heap.size := (hO1'.row.lt g rfl).2
                  have gB2 : W2.heap[W.heap.size]? = some (.cells #[.slice (some ⟨g, 0, none⟩) os.length c] 45 (0, 0)) := (hO1.2.1.block W.heap.size (by rw [HS1.out]; omega) (fun e => by simp [Value.ownBlock] at e; omega)).trans G0.out
                  have cB2 : W2.cell? ⟨W.heap.size, 0, none⟩ = some (.slice (some ⟨g, 0, none⟩) os.length c) := by rw [cell_of_row _ _ _ _ _ _ gB2]; rfl
                  have hB2 : W.heap.size < W2.heap.size := (Array.getElem?_eq_some_iff.1 gB2).1
                  have hkle := HKL'.out
                  have HPL : Hid (plQ (outQ (os.map Ow.pl) (i : Int)) (p : Int) before = (k : Int)) := Lib.hid (by
                    unfold plQ
                    rw [if_neg HNB1.out, pAt_some (x := y1.pl) (by rw [← hos1, List.getElem?_map, hy1]; rfl)]
                    exact HK1'.out)
                  have KA2 := at_any y1.pl.kids before A1 cp1 W2 hr hK6
                  rw [HK1'.out] at KA2
                  replace KA2 := Lib.hid KA2
                  have KWI := Lib.hid (with_any y1.pl.kids k (i : Int) A1 cp1 W2.drew (hr.below (Below.refl _ W2).drew) hA1 hkle hK6 hKle hKmx)
                  have FX := Lib.hid (fun (w3 : World) (hb : Below W2.drew.heap.size W2.drew w3) => show w3.cell? ⟨W.heap.size, 0, none⟩ = some (.slice (some ⟨g, 0, none⟩) os.length c) ∧ w3.frozen? ⟨g, p * 6 + 4, none⟩ = false ∧ w3.cell? ⟨g, p * 6 + 4, none⟩ = some (.slice A1 y1.pl.kids.length cp1) by
                    have hG : w3.heap[g]? = W2.heap[g]? := hb.block g hgl2
                    have hB : w3.heap[W.heap.size]? = W2.heap[W.heap.size]? := hb.block _ hB2
                    refine ⟨(World.cell?_of_block (a := ⟨W.heap.size, 0, none⟩) hB).trans cB2, ?_, (World.cell?_of_block (a := ⟨g, p * 6 + 4, none⟩) hG).trans c4⟩
                    have := f4
                    unfold World.frozen? at this ⊢
                    rw [hG]
                    exact this)
                  have HO1 := Lib.hid hO1
                  have HO1' := Lib.hid hO1'
                  have HY1 := Lib.hid hy1
                  have HOS1 := Lib.hid hos1
                  have HL1 := Lib.hid hl1
                  have HGB2 := Lib.hid gB2
                  have hgP : (p : Int) * 6 = ((p * 6 : Nat) : Int) := by omega
                  clear hy1 hos1 hl1 hO1 hO1' hr hA1 e1 hkle gB2 f4
                  go_wp2_with fail
                  refine KA2.out.mono ?_
                  rintro e w9 ⟨rfl, hw9⟩
                  rw [hw9]
                  clear hw9 w9
                  go_wp2_with fail
                  go_region_law (first | (go_simp; go_at_call 81; refine KWI.out.mono ?_; rintro e w3 ⟨v3, rfl, ho3, hb3⟩; obtain ⟨A3, c3, hv3⟩ := own_slice ho3; subst hv3; obtain ⟨cD3, cF3, cE3⟩ := FX.out w3 hb3))
                  all_goals
                    have hb3' : Below W2.heap.size W2 w3 := ((Below.refl _ W2).drew).trans hb3
                    have h3 := HO1'.out.below hb3'
                    have hbs : base ≤ W2.heap.size := by omega
                    have ho3' : w3.ownsRow base 3 1 (.slice A3 (insL y1.pl.kids k (i : Int)).length c3) (insL y1.pl.kids k (i : Int)).length ((insL y1.pl.kids k (i : Int)).map (Value.int .i64)) := own_move ho3 (fun _ _ => rfl) hbs
                    obtain ⟨y2, hy2⟩ : ∃ y2, Ow.mk { y1.pl with kids := insL y1.pl.kids k (i : Int) } (.slice A3 (insL y1.pl.kids k (i : Int)).length c3) = y2 := ⟨_, rfl⟩
                    have T1 := h3.upd (x' := y2) (u := .slice A3 (insL y1.pl.kids k (i : Int)).length c3) HY1.out (show 4 < 6 by omega) (by rw [← hy2]; rfl) (by rw [← hy2]; exact ho3')
                    have N1 := OB.set (v := .slice (some ⟨g, 0, none⟩) os.length c) (x' := y2) (B := W.heap.size) HY1.out (fun q e => .inr (by
                      rw [← hy2] at e
                      have h9 := (ho3.lt q e).1
                      have h8 : W2.drew.heap.size = W2.heap.size := rfl
                      omega))
                    obtain ⟨W3, hW3⟩ : ∃ W3, w3.setCell ⟨g, p * 6 + 4, none⟩ (.slice A3 (insL y1.pl.kids k (i : Int)).length c3) = W3 := ⟨_, rfl⟩
                    have hp1 : (os1.set p y2).map Ow.pl = md (os1.map Ow.pl) p (fun z => { z with kids := insL z.kids k (i : Int) }) := setO_pl HY1.out (by rw [← hy2])
                    obtain ⟨os2, hos2⟩ : ∃ os2, os1.set p y2 = os2 := ⟨_, rfl⟩
                    have hl2 : os2.length = os1.length := by rw [← hos2, List.length_set]
                    rw [hW3, hos2] at T1
                    rw [hos2] at N1 hp1
                    obtain ⟨h4, hf4⟩ := T1
                    rw [← hl2] at h4
                    obtain ⟨x2, hx2⟩ : ∃ x2, os2[i]? = some x2 := ⟨_, List.getElem?_eq_getElem (by rw [hl2, HL1.out]; exact hil)⟩
                    have c33 : W3.cell? ⟨g, i * 6 + 3, none⟩ = some (.int .i64 x2.pl.up) := h4.cell hx2 (show 3 < 6 by omega)
                    have f33 : W3.frozen? ⟨g, i * 6 + 3, none⟩ = false := h4.row.frozenAt _
                    obtain ⟨x3, hx3⟩ : ∃ x3, Ow.mk { x2.pl with up := (p : Int) } x2.kv = x3 := ⟨_, rfl⟩
                    have T2 := h4.upd (x' := x3) (u := .int .i64 (p : Int)) hx2 (show 3 < 6 by omega) (by rw [← hx3]; rfl) (by rw [← hx3]; exact h4.kids i x2 hx2)
                    have N2 := OB.set (v := .slice (some ⟨g, 0, none⟩) os.length c) (x' := x3) (B := W.heap.size) hx2 (fun q e => .inl (by rw [← hx3] at e; exact e))
                    have hp2 : (os2.set i x3).map Ow.pl = md (os2.map Ow.pl) i (fun z => { z with up := (p : Int) }) := setO_pl hx2 (by rw [← hx3])
                    obtain ⟨h5, hf5⟩ := T2
                    rw [hl2, HL1.out] at h5 hf5
                    rw [HL1.out] at hf4
                    have gB3 : W3.heap[W.heap.size]? = some (.cells #[.slice (some ⟨g, 0, none⟩) os.length c] 45 (0, 0)) := (hf4.block W.heap.size (by have := hb3'.size; omega) (fun e => by simp [Value.ownBlock] at e; omega)).trans ((hb3'.block W.heap.size hB2).trans HGB2.out)
                    have cB3 : W3.cell? ⟨W.heap.size, 0, none⟩ = some (.slice (some ⟨g, 0, none⟩) os.length c) := by rw [cell_of_row _ _ _ _ _ _ gB3]; rfl
                    have HP2 : Hid ((os2.set i x3).map Ow.pl = putQ (os.map Ow.pl) (p : Int) (i : Int) before) := Lib.hid (by
                      unfold putQ
                      rw [if_pos HE0.out, Int.toNat_natCast, Int.toNat_natCast, HPL.out, Int.toNat_natCast, ← HOS1.out]
                      unfold attQ
                      rw [hp2, hp1])
                    have HR : Hid (TrO base (.slice (some ⟨g, 0, none⟩) os.length c) os (os2.set i x3) W (W3.setCell ⟨g, i * 6 + 3, none⟩ (.int .i64 (p : Int)))) := Lib.hid ⟨h5, (((Frm.below HB1.out).trans HO1.out.2.1).trans (Frm.below hb3')).trans (hf4.trans hf5), fun q e => by
                      rcases N2 q e with e | e
                      · rcases N1 q e with e | e
                        · rcases HO1.out.2.2 q e with e | e
                          · exact .inl e
                          · exact .inr (by rw [HS1.out] at e; omega)
                        · exact .inr e
                      · exact .inr e⟩
                    clear hb3' h3 ho3 ho3' N1 N2 hp1 hp2 h4 hf4 h5 hf5 hb3 cD3 cF3 cE3 FX HO1 HO1' hx2 hos2 hl2 hx3 hy2 KWI gB3 HGB2 G0
                    go_wp2
                    go_ret
                    exact ⟨os2.set i x3, by rw [HE0.out]; rfl, HP2.out, HR.out⟩
end
end Go.Proofs.Ytodlcfhkiilpgaa
