/- The law TokenSame, walked. -/
import Derived.Test.YtanbbomdidefjaaKy
import Derived.Test.YtanbbomdidefjaaKr
import Derived.Laws.Concat
import Derived.RegionTactic
import Derived.ChangeAlike
namespace Go.Proofs.Ytanbbomdidefjaa
open Go.RowKit Go.Lib
attribute [local go_sem] Oper.semAt_some

theorem and4 (x : Int) : 0 ≤ bits .and .i64 x 15 ∧ bits .and .i64 x 15 ≤ 15 := by
  have h1 : (BitVec.ofInt 64 x &&& BitVec.ofInt 64 15).toNat ≤ 15 := by
    rw [BitVec.toNat_and]
    exact Nat.le_trans Nat.and_le_right (by decide)
  have h2 : bits .and .i64 x 15 = IntKind.i64.wrap ((BitVec.ofInt 64 x &&& BitVec.ofInt 64 15).toNat : Int) := rfl
  rw [h2]
  generalize (BitVec.ofInt 64 x &&& BitVec.ofInt 64 15).toNat = y at h1
  simp [IntKind.wrap, IntKind.bits, IntKind.signed]
  omega
theorem wrap_ne (k : Int) : k ≠ wrap64 (k + 1) := by
  unfold wrap64
  omega
theorem catx_ne (s : ByteArray) : s ≠ s ++ ⟨#[120]⟩ := by
  intro e
  have := congrArg ByteArray.size e
  rw [ByteArray.size_append] at this
  have h2 : (⟨#[120]⟩ : ByteArray).size = 1 := rfl
  omega
theorem catx_fit {s : ByteArray} (h : s.size ≤ reachBytes) : s.size + (⟨#[120]⟩ : ByteArray).size ≤ 9223372036854775807 := by
  have h2 : (⟨#[120]⟩ : ByteArray).size = 1 := rfl
  unfold reachBytes at h
  omega
theorem tsm_ne {T U : TokV} (h : T.k ≠ U.k ∨ T.n ≠ U.n ∨ T.da ≠ U.da ∨ T.sf ≠ U.sf ∨ T.qk ≠ U.qk ∨ T.hp ≠ U.hp ∨ T.pu ≠ U.pu ∨ T.hy ≠ U.hy ∨ T.sy ≠ U.sy ∨ T.xs ≠ U.xs) : tsm T U = false ∧ tsm U T = false := by
  constructor
  · cases hh : tsm T U with
    | false => rfl
    | true =>
      unfold tsm at hh
      simp only [Bool.and_eq_true, beq_iff_eq, sm_iff, decide_eq_true_eq] at hh
      obtain ⟨⟨⟨⟨⟨⟨⟨⟨⟨h0, h1⟩, h2⟩, h3⟩, h4⟩, h5⟩, h6⟩, h7⟩, h8⟩, h9⟩ := hh
      simp [h0, h1, h2, h3, h4, h5, h6, h7, h8, h9] at h
  · cases hh : tsm U T with
    | false => rfl
    | true =>
      unfold tsm at hh
      simp only [Bool.and_eq_true, beq_iff_eq, sm_iff, decide_eq_true_eq] at hh
      obtain ⟨⟨⟨⟨⟨⟨⟨⟨⟨h0, h1⟩, h2⟩, h3⟩, h4⟩, h5⟩, h6⟩, h7⟩, h8⟩, h9⟩ := hh
      simp [h0, h1, h2, h3, h4, h5, h6, h7, h8, h9] at h
/-- a token lies in a block of its own -/
def TkB (W : World) (b : Nat) (T : TokV) : Prop := W.heap[b]? = some (.cells T.cs 36 (0, 0))
theorem TkB.lt {W : World} {b : Nat} {T : TokV} (h : TkB W b T) : b < W.heap.size := by
  rcases Nat.lt_or_ge b W.heap.size with hlt | hge
  · exact hlt
  · unfold TkB at h; rw [Array.getElem?_eq_none hge] at h; cases h
theorem TkB.below {W W' : World} {b : Nat} {T : TokV} (h : TkB W b T) (hb : Below W.heap.size W W') : TkB W' b T := (hb.block b h.lt).trans h
theorem TkB.cells {W : World} {b : Nat} {T : TokV} (h : TkB W b T) : W.cell? ⟨b, 0, none⟩ = some (.int .i64 T.k) ∧ W.cell? ⟨b, 1, none⟩ = some (.string T.n) ∧ W.cell? ⟨b, 2, none⟩ = some (.slice T.A T.xs.length T.cap) ∧ W.cell? ⟨b, 3, none⟩ = some (.bool T.sf) ∧ W.cell? ⟨b, 4, none⟩ = some (.string T.da) ∧ W.cell? ⟨b, 5, none⟩ = some (.string T.pu) ∧ W.cell? ⟨b, 6, none⟩ = some (.string T.sy) ∧ W.cell? ⟨b, 7, none⟩ = some (.bool T.hp) ∧ W.cell? ⟨b, 8, none⟩ = some (.bool T.hy) ∧ W.cell? ⟨b, 9, none⟩ = some (.bool T.qk) := by
  refine ⟨?_, ?_, ?_, ?_, ?_, ?_, ?_, ?_, ?_, ?_⟩ <;> (rw [cell_of_row W b _ _ _ _ h]; rfl)
theorem TkB.fz {W : World} {b : Nat} {T : TokV} (h : TkB W b T) (j : Nat) : W.frozen? ⟨b, j, none⟩ = false := by
  unfold TkB at h
  simp [World.frozen?, h]
theorem TkB.set {W : World} {b j : Nat} {T U : TokV} {u : Value} (h : TkB W b T) (hu : T.cs.setIfInBounds j u = U.cs) : TkB (W.setCell ⟨b, j, none⟩ u) b U := by
  unfold TkB at h ⊢
  simp [World.setCell, Array.getElem?_modify, h, hu]
theorem TkB.far {W : World} {b : Nat} {T : TokV} {p : Addr} (h : TkB W b T) (hp : b ≠ p.block) (u : Value) : TkB (W.setCell p u) b T := (Below.heap_setCell W p u b hp).trans h

theorem own_setCell {W : World} {base sz m : Nat} {e : TypeId} {v : Value} {zs : List Value} (ho : W.ownsRow base e sz v m zs) (p : Addr) (hp : p.block < base) (u : Value) : (W.setCell p u).ownsRow base e sz v m zs :=
  own_far (row := some p.block) ho ⟨rfl, rfl, rfl, by simp, fun g _ hg => heap_setCell_other W p g u (fun e => hg (by simp [e]))⟩ (fun g e1 e2 => by
    have := (ho.lt g e1).1
    injection e2 with e2
    omega)
/-- both tokens, and the second one's own attributes -/
structure St (w : World) (Bb : Nat) (T U : TokV) (W : World) : Prop where
  ta : TkB W w.heap.size T
  tb : TkB W Bb U
  ho : W.ownsRow (Bb + 1) 39 2 (.slice U.A U.xs.length U.cap) U.xs.length (cellsA U.xs)
  bw : Below w.heap.size w W
  lt : w.heap.size < Bb
theorem St.below {w : World} {Bb : Nat} {T U : TokV} {W W' : World} (h : St w Bb T U W) (hb : Below W.heap.size W W') : St w Bb T U W' :=
  ⟨h.ta.below hb, h.tb.below hb, own_keep h.ho hb, h.bw.trans (hb.mono h.bw.size), h.lt⟩
theorem St.set {w : World} {Bb : Nat} {T U U' : TokV} {W : World} (h : St w Bb T U W) (j : Nat) (u : Value) (hu : U.cs.setIfInBounds j u = U'.cs) (hA : U'.A = U.A) (hx : U'.xs = U.xs) (hc : U'.cap = U.cap) : St w Bb T U' (W.setCell ⟨Bb, j, none⟩ u) :=
  ⟨h.ta.far (p := ⟨Bb, j, none⟩) (fun e => by have := h.lt; simp at e; omega) u, h.tb.set hu, by rw [hA, hx, hc]; exact own_setCell h.ho ⟨Bb, j, none⟩ (Nat.lt_succ_self _) u, h.bw.setCell (p := ⟨Bb, j, none⟩) (Nat.le_of_lt h.lt) u, h.lt⟩
theorem St.rd {w : World} {Bb : Nat} {T U : TokV} {W : World} (h : St w Bb T U W) : RdA W U.A U.xs := by
  obtain ⟨A, cap, e, _, _, _, hr⟩ := RdA.own h.ho
  injection e with e1 e2 e3
  rw [e1]
  exact hr
theorem St.same {w : World} {Bb : Nat} {T U : TokV} {W : World} (h : St w Bb T U W) (hr : RdA w T.A T.xs) (hl : T.xs.length ≤ 1000000) : Calls Try.prog 10 #[.agg T.cs, .agg U.cs] W fun e w' => e = .returned (.bool (tsm T U)) ∧ Below W.heap.size W w' :=
  tsame_any T U W (hr.below h.bw) h.rd hl
theorem St.emas {w : World} {Bb : Nat} {T U : TokV} {W : World} (h : St w Bb T U W) (hr : RdA w T.A T.xs) (hl : U.xs.length ≤ 1000000) : Calls Try.prog 10 #[.agg U.cs, .agg T.cs] W fun e w' => e = .returned (.bool (tsm U T)) ∧ Below W.heap.size W w' :=
  tsame_any U T W h.rd (hr.below h.bw) hl

set_option maxHeartbeats 8000000 in
set_option maxRecDepth 100000 in
theorem tokenSame_law (k : Int) (n : ByteArray) (A : Option Addr) (xs : List Atr) (cap : Nat) (sf : Bool) (da pu sy : ByteArray) (hp hy qk : Bool) (which : Int) (w : World) (h : RdA w A xs) (hmx : xs.length ≤ maxLen) (hA : A = none → cap = 0 ∧ xs = [])
    (hsz : n.size ≤ reachBytes ∧ da.size ≤ reachBytes ∧ pu.size ≤ reachBytes ∧ sy.size ≤ reachBytes ∧ ∀ y ∈ xs, y.2.size ≤ reachBytes) :
    Calls Try.prog 4 #[.agg #[.int .i64 k, .string n, .slice A xs.length cap, .bool sf, .string da, .string pu, .string sy, .bool hp, .bool hy, .bool qk], .int .i64 which] w fun e w' => e = .returned (.bool true) ∧ Below w.heap.size w w' := by
  have hbx := (Below.refl w.heap.size w).alloc (Nat.le_refl _) (.cells #[.int .i64 k, .string n, .slice A xs.length cap, .bool sf, .string da, .string pu, .string sy, .bool hp, .bool hy, .bool qk] 36)
  have KH := Lib.hid (head7_any (w.alloc (.cells #[.int .i64 k, .string n, .slice A xs.length cap, .bool sf, .string da, .string pu, .string sy, .bool hp, .bool hy, .bool qk] 36)))
  have H := Lib.hid (h.below hbx)
  have H0 := Lib.hid h
  have HBX := Lib.hid hbx
  have HA := Lib.hid hA
  have HSZ := Lib.hid hsz
  have hTk : TkB (w.alloc (.cells #[.int .i64 k, .string n, .slice A xs.length cap, .bool sf, .string da, .string pu, .string sy, .bool hp, .bool hy, .bool qk] 36)) w.heap.size ⟨k, n, A, xs, cap, sf, da, pu, sy, hp, hy, qk⟩ := heap_alloc_new w _
  have HTK := Lib.hid hTk
  unfold maxLen at hmx
  clear h hbx hA hsz hTk
  by_cases hl : xs.length ≤ 30
  · have hg : decide (30 < xs.length) = false := decide_eq_false (by omega)
    have hg2 : decide ((30 : Int) < (xs.length : Int)) = false := decide_eq_false (by omega)
    clear hmx
    go_enter Try.func4, Try.ntmps4
    go_wp2_with fail
    refine KH.out.mono ?_
    rintro e1 w1 ⟨rfl, hb1⟩
    have TA1 := Lib.hid (HTK.out.below hb1)
    have B1 := Lib.hid (HBX.out.trans (hb1.mono HBX.out.size))
    have H1 := Lib.hid (H.out.below hb1)
    obtain ⟨a0, a1, a2, a3, a4, a5, a6, a7, a8, a9⟩ := TA1.out.cells
    have hlt1 := TA1.out.lt
    have hne1 : ¬ w1.heap.size = w.heap.size := by omega
    have hne1' : ¬ w.heap.size = w1.heap.size := by omega
    have hne1'' : ¬ w.heap.size = w1.heap.size + 1 := by omega
    clear hb1 KH HBX H HTK
    have hom : ((w1.alloc (.cells #[.int .i64 k, .string n, .slice A xs.length cap, .bool sf, .string da, .string pu, .string sy, .bool hp, .bool hy, .bool qk] 36)).alloc (.cells #[] 39)).ownsRow (w1.heap.size + 1) 39 2 (.slice (some ⟨w1.heap.size + 1, 0, none⟩) 0 0) 0 (cellsA []) := by
      have := World.ownsRow_made (base := w1.heap.size + 1) (e := 39) (size := 2) (w1.alloc (.cells #[.int .i64 k, .string n, .slice A xs.length cap, .bool sf, .string da, .string pu, .string sy, .bool hp, .bool hy, .bool qk] 36)) #[] 0 (by simp) (Nat.zero_le _) (by simp)
      simpa [cellsA] using this
    have HOM := Lib.hid hom
    clear hom
    go_wp2_with (at_builtin; refine wpList_append_rda rfl rfl (w1.heap.size + 1) _ 0 [] rfl HOM.out A xs.length cap rfl xs rfl ((H1.out.below ((Below.refl _ _).alloc (Nat.le_refl _) _)).below ((Below.refl _ _).alloc (Nat.le_refl _) _)) HA.out (by omega) (by simp) ?_)
    intro v3 w3 ho3 hg3 hl3
    obtain ⟨A', cap', rfl, _, _, _, hr3⟩ := RdA.own ho3
    have b13 : Below w1.heap.size w1 w3 := (((Below.refl _ w1).alloc (Nat.le_refl _) _).alloc (by simp) _).grown hg3 (by simp; omega) (fun g e => by simp [Value.ownBlock] at e; omega)
    have TA3 : TkB w3 w.heap.size ⟨k, n, A, xs, cap, sf, da, pu, sy, hp, hy, qk⟩ := TA1.out.below b13
    have TB3 : TkB w3 w1.heap.size ⟨k, n, A, xs, cap, sf, da, pu, sy, hp, hy, qk⟩ := by
      refine (hg3.block _ (by simp; omega) (fun e => by simp [Value.ownBlock] at e)).trans ?_
      exact (Below.heap_alloc _ _ _ (by simp)).trans (heap_alloc_new w1 _)
    obtain ⟨W4, hW4⟩ : ∃ W4, w3.setCell ⟨w1.heap.size, 2, none⟩ (.slice A' xs.length cap') = W4 := ⟨_, rfl⟩
    have S4 : St w w1.heap.size ⟨k, n, A, xs, cap, sf, da, pu, sy, hp, hy, qk⟩ ⟨k, n, A', xs, cap', sf, da, pu, sy, hp, hy, qk⟩ W4 := by
      rw [← hW4]
      exact ⟨TA3.far (p := ⟨w1.heap.size, 2, none⟩) (by simp; omega) _, TB3.set rfl, own_setCell ho3 ⟨w1.heap.size, 2, none⟩ (Nat.lt_succ_self _) _, (B1.out.trans (b13.mono B1.out.size)).setCell (p := ⟨w1.heap.size, 2, none⟩) (Nat.le_of_lt hlt1) _, hlt1⟩
    have HS4 := Lib.hid S4
    have HTA3 := Lib.hid TA3
    have HTB3 := Lib.hid TB3
    clear a0 a1 a2 a3 a4 a5 a6 a7 a8 a9
    obtain ⟨a0, a1, a2, a3, a4, a5, a6, a7, a8, a9⟩ := HTA3.out.cells
    obtain ⟨b0, b1, b2, b3, b4, b5, b6, b7, b8, b9⟩ := HTB3.out.cells
    have f2 := HTB3.out.fz 2
    have HW4 := Lib.hid hW4
    clear hW4 S4 TA3 TB3 b13 ho3 hg3 hl3 hr3 HOM H1 B1 TA1
    go_wp2_with fail
    rw [HW4.out]
    have K4 := Lib.hid (HS4.out.same H0.out (by simp only; omega))
    have hts : tsm ⟨k, n, A, xs, cap, sf, da, pu, sy, hp, hy, qk⟩ ⟨k, n, A', xs, cap', sf, da, pu, sy, hp, hy, qk⟩ = true := by simp [tsm, sm_self]
    have hts2 : tsm ⟨k, n, A', xs, cap', sf, da, pu, sy, hp, hy, qk⟩ ⟨k, n, A, xs, cap, sf, da, pu, sy, hp, hy, qk⟩ = true := by simp [tsm, sm_self]
    rw [hts] at K4
    refine K4.out.mono ?_
    rintro e5 w5 ⟨rfl, hb5⟩
    have HS5 := Lib.hid (HS4.out.below hb5)
    clear a0 a1 a2 a3 a4 a5 a6 a7 a8 a9 b0 b1 b2 b3 b4 b5 b6 b7 b8 b9 f2 K4 HS4 hb5 HTA3 HTB3 HW4
    obtain ⟨a0, a1, a2, a3, a4, a5, a6, a7, a8, a9⟩ := HS5.out.ta.cells
    obtain ⟨b0, b1, b2, b3, b4, b5, b6, b7, b8, b9⟩ := HS5.out.tb.cells
    simp only at a0 a1 a2 a3 a4 a5 a6 a7 a8 a9 b0 b1 b2 b3 b4 b5 b6 b7 b8 b9
    have K5 := Lib.hid (HS5.out.emas H0.out (by simp only; omega))
    rw [hts2] at K5
    clear hts hts2
    go_wp2_with fail
    refine K5.out.mono ?_
    rintro e6 w6 ⟨rfl, hb6⟩
    have HS6 := Lib.hid (HS5.out.below hb6)
    clear a0 a1 a2 a3 a4 a5 a6 a7 a8 a9 b0 b1 b2 b3 b4 b5 b6 b7 b8 b9 K5 HS5 hb6
    obtain ⟨a0, a1, a2, a3, a4, a5, a6, a7, a8, a9⟩ := HS6.out.ta.cells
    obtain ⟨b0, b1, b2, b3, b4, b5, b6, b7, b8, b9⟩ := HS6.out.tb.cells
    simp only at a0 a1 a2 a3 a4 a5 a6 a7 a8 a9 b0 b1 b2 b3 b4 b5 b6 b7 b8 b9
    have hne6 : ¬ w1.heap.size = w.heap.size := by omega
    have hfz := fun j => HS6.out.tb.fz j
    have HFZ := Lib.hid hfz
    obtain ⟨hm0, hm1⟩ := and4 which
    obtain ⟨m, hm⟩ : ∃ m : Nat, bits .and .i64 which 15 = (m : Int) := ⟨(bits .and .i64 which 15).toNat, by omega⟩
    rw [hm] at hm0 hm1
    have hcs : m = 0 ∨ m = 1 ∨ m = 2 ∨ m = 3 ∨ m = 4 ∨ m = 5 ∨ m = 6 ∨ m = 7 ∨ m = 8 ∨ m = 9 ∨ 10 ≤ m := by omega
    clear hfz
    rcases hcs with rfl | rfl | rfl | rfl | rfl | rfl | rfl | rfl | rfl | rfl | hge
    · have hcase := True.intro
      have f0 := HFZ.out 0
      go_wp2_with fail
      obtain ⟨W7, hW7⟩ : ∃ W7, w6.setCell ⟨w1.heap.size, 0, none⟩ (.int .i64 (wrap64 (k + 1))) = W7 := ⟨_, rfl⟩
      have S7 : St w w1.heap.size ⟨k, n, A, xs, cap, sf, da, pu, sy, hp, hy, qk⟩ ⟨wrap64 (k + 1), n, A', xs, cap', sf, da, pu, sy, hp, hy, qk⟩ W7 := by
        rw [← hW7]
        exact HS6.out.set (U' := ⟨wrap64 (k + 1), n, A', xs, cap', sf, da, pu, sy, hp, hy, qk⟩) 0 (.int .i64 (wrap64 (k + 1))) rfl rfl rfl rfl
      have HS7 := Lib.hid S7
      rw [hW7]
      have hts := tsm_ne (T := ⟨k, n, A, xs, cap, sf, da, pu, sy, hp, hy, qk⟩) (U := ⟨wrap64 (k + 1), n, A', xs, cap', sf, da, pu, sy, hp, hy, qk⟩) (.inl (wrap_ne k))
      have K7 := Lib.hid (HS7.out.same H0.out (by simp only; omega))
      rw [hts.1] at K7
      have HTS := Lib.hid hts.2
      clear hts hW7 S7
      refine K7.out.mono ?_
      rintro e8 w8 ⟨rfl, hb8⟩
      have HS8 := Lib.hid (HS7.out.below hb8)
      have K8 := Lib.hid (HS8.out.emas H0.out (by first | (simp only; omega) | (simp only [List.length_append, List.length_cons, List.length_nil]; omega)))
      rw [HTS.out] at K8
      clear a0 a1 a2 a3 a4 a5 a6 a7 a8 a9 b0 b1 b2 b3 b4 b5 b6 b7 b8 b9 hb8 K7 HS7
      obtain ⟨a0, a1, a2, a3, a4, a5, a6, a7, a8, a9⟩ := HS8.out.ta.cells
      obtain ⟨b0, b1, b2, b3, b4, b5, b6, b7, b8, b9⟩ := HS8.out.tb.cells
      simp only at a0 a1 a2 a3 a4 a5 a6 a7 a8 a9 b0 b1 b2 b3 b4 b5 b6 b7 b8 b9
      go_wp2_with fail
      refine K8.out.mono ?_
      rintro e9 w9 ⟨rfl, hb9⟩
      go_wp2
      go_ret
      exact ⟨rfl, (HS8.out.below hb9).bw⟩
    · have hcase := True.intro
      have hst := fun (w : World) => run_string_add_sum (P := Try.prog) w n ⟨#[120]⟩ (catx_fit HSZ.out.1)
      have hn9 : ¬ (9223372036854775807 < n.size + (⟨#[120]⟩ : ByteArray).size) := by have := catx_fit (s := n) (HSZ.out.1); omega
      have f0 := HFZ.out 1
      go_wp2_with fail
      obtain ⟨W7, hW7⟩ : ∃ W7, w6.setCell ⟨w1.heap.size, 1, none⟩ (.string (n ++ ⟨#[120]⟩)) = W7 := ⟨_, rfl⟩
      have S7 : St w w1.heap.size ⟨k, n, A, xs, cap, sf, da, pu, sy, hp, hy, qk⟩ ⟨k, n ++ ⟨#[120]⟩, A', xs, cap', sf, da, pu, sy, hp, hy, qk⟩ W7 := by
        rw [← hW7]
        exact HS6.out.set (U' := ⟨k, n ++ ⟨#[120]⟩, A', xs, cap', sf, da, pu, sy, hp, hy, qk⟩) 1 (.string (n ++ ⟨#[120]⟩)) rfl rfl rfl rfl
      have HS7 := Lib.hid S7
      rw [hW7]
      have hts := tsm_ne (T := ⟨k, n, A, xs, cap, sf, da, pu, sy, hp, hy, qk⟩) (U := ⟨k, n ++ ⟨#[120]⟩, A', xs, cap', sf, da, pu, sy, hp, hy, qk⟩) (.inr (.inl (catx_ne n)))
      have K7 := Lib.hid (HS7.out.same H0.out (by simp only; omega))
      rw [hts.1] at K7
      have HTS := Lib.hid hts.2
      clear hts hW7 S7
      refine K7.out.mono ?_
      rintro e8 w8 ⟨rfl, hb8⟩
      have HS8 := Lib.hid (HS7.out.below hb8)
      have K8 := Lib.hid (HS8.out.emas H0.out (by first | (simp only; omega) | (simp only [List.length_append, List.length_cons, List.length_nil]; omega)))
      rw [HTS.out] at K8
      clear a0 a1 a2 a3 a4 a5 a6 a7 a8 a9 b0 b1 b2 b3 b4 b5 b6 b7 b8 b9 hb8 K7 HS7
      obtain ⟨a0, a1, a2, a3, a4, a5, a6, a7, a8, a9⟩ := HS8.out.ta.cells
      obtain ⟨b0, b1, b2, b3, b4, b5, b6, b7, b8, b9⟩ := HS8.out.tb.cells
      simp only at a0 a1 a2 a3 a4 a5 a6 a7 a8 a9 b0 b1 b2 b3 b4 b5 b6 b7 b8 b9
      go_wp2_with fail
      refine K8.out.mono ?_
      rintro e9 w9 ⟨rfl, hb9⟩
      go_wp2
      go_ret
      exact ⟨rfl, (HS8.out.below hb9).bw⟩
    · have hcase := True.intro
      have f0 := HFZ.out 3
      go_wp2_with fail
      obtain ⟨W7, hW7⟩ : ∃ W7, w6.setCell ⟨w1.heap.size, 3, none⟩ (.bool (!sf)) = W7 := ⟨_, rfl⟩
      have S7 : St w w1.heap.size ⟨k, n, A, xs, cap, sf, da, pu, sy, hp, hy, qk⟩ ⟨k, n, A', xs, cap', !sf, da, pu, sy, hp, hy, qk⟩ W7 := by
        rw [← hW7]
        exact HS6.out.set (U' := ⟨k, n, A', xs, cap', !sf, da, pu, sy, hp, hy, qk⟩) 3 (.bool (!sf)) rfl rfl rfl rfl
      have HS7 := Lib.hid S7
      rw [hW7]
      have hts := tsm_ne (T := ⟨k, n, A, xs, cap, sf, da, pu, sy, hp, hy, qk⟩) (U := ⟨k, n, A', xs, cap', !sf, da, pu, sy, hp, hy, qk⟩) (.inr (.inr (.inr (.inl (by cases sf <;> simp)))))
      have K7 := Lib.hid (HS7.out.same H0.out (by simp only; omega))
      rw [hts.1] at K7
      have HTS := Lib.hid hts.2
      clear hts hW7 S7
      refine K7.out.mono ?_
      rintro e8 w8 ⟨rfl, hb8⟩
      have HS8 := Lib.hid (HS7.out.below hb8)
      have K8 := Lib.hid (HS8.out.emas H0.out (by first | (simp only; omega) | (simp only [List.length_append, List.length_cons, List.length_nil]; omega)))
      rw [HTS.out] at K8
      clear a0 a1 a2 a3 a4 a5 a6 a7 a8 a9 b0 b1 b2 b3 b4 b5 b6 b7 b8 b9 hb8 K7 HS7
      obtain ⟨a0, a1, a2, a3, a4, a5, a6, a7, a8, a9⟩ := HS8.out.ta.cells
      obtain ⟨b0, b1, b2, b3, b4, b5, b6, b7, b8, b9⟩ := HS8.out.tb.cells
      simp only at a0 a1 a2 a3 a4 a5 a6 a7 a8 a9 b0 b1 b2 b3 b4 b5 b6 b7 b8 b9
      go_wp2_with fail
      refine K8.out.mono ?_
      rintro e9 w9 ⟨rfl, hb9⟩
      go_wp2
      go_ret
      exact ⟨rfl, (HS8.out.below hb9).bw⟩
    · have hcase := True.intro
      have hst := fun (w : World) => run_string_add_sum (P := Try.prog) w da ⟨#[120]⟩ (catx_fit HSZ.out.2.1)
      have hn9 : ¬ (9223372036854775807 < da.size + (⟨#[120]⟩ : ByteArray).size) := by have := catx_fit (s := da) (HSZ.out.2.1); omega
      have f0 := HFZ.out 4
      go_wp2_with fail
      obtain ⟨W7, hW7⟩ : ∃ W7, w6.setCell ⟨w1.heap.size, 4, none⟩ (.string (da ++ ⟨#[120]⟩)) = W7 := ⟨_, rfl⟩
      have S7 : St w w1.heap.size ⟨k, n, A, xs, cap, sf, da, pu, sy, hp, hy, qk⟩ ⟨k, n, A', xs, cap', sf, da ++ ⟨#[120]⟩, pu, sy, hp, hy, qk⟩ W7 := by
        rw [← hW7]
        exact HS6.out.set (U' := ⟨k, n, A', xs, cap', sf, da ++ ⟨#[120]⟩, pu, sy, hp, hy, qk⟩) 4 (.string (da ++ ⟨#[120]⟩)) rfl rfl rfl rfl
      have HS7 := Lib.hid S7
      rw [hW7]
      have hts := tsm_ne (T := ⟨k, n, A, xs, cap, sf, da, pu, sy, hp, hy, qk⟩) (U := ⟨k, n, A', xs, cap', sf, da ++ ⟨#[120]⟩, pu, sy, hp, hy, qk⟩) (.inr (.inr (.inl (catx_ne da))))
      have K7 := Lib.hid (HS7.out.same H0.out (by simp only; omega))
      rw [hts.1] at K7
      have HTS := Lib.hid hts.2
      clear hts hW7 S7
      refine K7.out.mono ?_
      rintro e8 w8 ⟨rfl, hb8⟩
      have HS8 := Lib.hid (HS7.out.below hb8)
      have K8 := Lib.hid (HS8.out.emas H0.out (by first | (simp only; omega) | (simp only [List.length_append, List.length_cons, List.length_nil]; omega)))
      rw [HTS.out] at K8
      clear a0 a1 a2 a3 a4 a5 a6 a7 a8 a9 b0 b1 b2 b3 b4 b5 b6 b7 b8 b9 hb8 K7 HS7
      obtain ⟨a0, a1, a2, a3, a4, a5, a6, a7, a8, a9⟩ := HS8.out.ta.cells
      obtain ⟨b0, b1, b2, b3, b4, b5, b6, b7, b8, b9⟩ := HS8.out.tb.cells
      simp only at a0 a1 a2 a3 a4 a5 a6 a7 a8 a9 b0 b1 b2 b3 b4 b5 b6 b7 b8 b9
      go_wp2_with fail
      refine K8.out.mono ?_
      rintro e9 w9 ⟨rfl, hb9⟩
      go_wp2
      go_ret
      exact ⟨rfl, (HS8.out.below hb9).bw⟩
    · have hcase := True.intro
      have hst := fun (w : World) => run_string_add_sum (P := Try.prog) w pu ⟨#[120]⟩ (catx_fit HSZ.out.2.2.1)
      have hn9 : ¬ (9223372036854775807 < pu.size + (⟨#[120]⟩ : ByteArray).size) := by have := catx_fit (s := pu) (HSZ.out.2.2.1); omega
      have f0 := HFZ.out 5
      go_wp2_with fail
      obtain ⟨W7, hW7⟩ : ∃ W7, w6.setCell ⟨w1.heap.size, 5, none⟩ (.string (pu ++ ⟨#[120]⟩)) = W7 := ⟨_, rfl⟩
      have S7 : St w w1.heap.size ⟨k, n, A, xs, cap, sf, da, pu, sy, hp, hy, qk⟩ ⟨k, n, A', xs, cap', sf, da, pu ++ ⟨#[120]⟩, sy, hp, hy, qk⟩ W7 := by
        rw [← hW7]
        exact HS6.out.set (U' := ⟨k, n, A', xs, cap', sf, da, pu ++ ⟨#[120]⟩, sy, hp, hy, qk⟩) 5 (.string (pu ++ ⟨#[120]⟩)) rfl rfl rfl rfl
      have HS7 := Lib.hid S7
      rw [hW7]
      have hts := tsm_ne (T := ⟨k, n, A, xs, cap, sf, da, pu, sy, hp, hy, qk⟩) (U := ⟨k, n, A', xs, cap', sf, da, pu ++ ⟨#[120]⟩, sy, hp, hy, qk⟩) (.inr (.inr (.inr (.inr (.inr (.inr (.inl (catx_ne pu))))))))
      have K7 := Lib.hid (HS7.out.same H0.out (by simp only; omega))
      rw [hts.1] at K7
      have HTS := Lib.hid hts.2
      clear hts hW7 S7
      refine K7.out.mono ?_
      rintro e8 w8 ⟨rfl, hb8⟩
      have HS8 := Lib.hid (HS7.out.below hb8)
      have K8 := Lib.hid (HS8.out.emas H0.out (by first | (simp only; omega) | (simp only [List.length_append, List.length_cons, List.length_nil]; omega)))
      rw [HTS.out] at K8
      clear a0 a1 a2 a3 a4 a5 a6 a7 a8 a9 b0 b1 b2 b3 b4 b5 b6 b7 b8 b9 hb8 K7 HS7
      obtain ⟨a0, a1, a2, a3, a4, a5, a6, a7, a8, a9⟩ := HS8.out.ta.cells
      obtain ⟨b0, b1, b2, b3, b4, b5, b6, b7, b8, b9⟩ := HS8.out.tb.cells
      simp only at a0 a1 a2 a3 a4 a5 a6 a7 a8 a9 b0 b1 b2 b3 b4 b5 b6 b7 b8 b9
      go_wp2_with fail
      refine K8.out.mono ?_
      rintro e9 w9 ⟨rfl, hb9⟩
      go_wp2
      go_ret
      exact ⟨rfl, (HS8.out.below hb9).bw⟩
    · have hcase := True.intro
      have hst := fun (w : World) => run_string_add_sum (P := Try.prog) w sy ⟨#[120]⟩ (catx_fit HSZ.out.2.2.2.1)
      have hn9 : ¬ (9223372036854775807 < sy.size + (⟨#[120]⟩ : ByteArray).size) := by have := catx_fit (s := sy) (HSZ.out.2.2.2.1); omega
      have f0 := HFZ.out 6
      go_wp2_with fail
      obtain ⟨W7, hW7⟩ : ∃ W7, w6.setCell ⟨w1.heap.size, 6, none⟩ (.string (sy ++ ⟨#[120]⟩)) = W7 := ⟨_, rfl⟩
      have S7 : St w w1.heap.size ⟨k, n, A, xs, cap, sf, da, pu, sy, hp, hy, qk⟩ ⟨k, n, A', xs, cap', sf, da, pu, sy ++ ⟨#[120]⟩, hp, hy, qk⟩ W7 := by
        rw [← hW7]
        exact HS6.out.set (U' := ⟨k, n, A', xs, cap', sf, da, pu, sy ++ ⟨#[120]⟩, hp, hy, qk⟩) 6 (.string (sy ++ ⟨#[120]⟩)) rfl rfl rfl rfl
      have HS7 := Lib.hid S7
      rw [hW7]
      have hts := tsm_ne (T := ⟨k, n, A, xs, cap, sf, da, pu, sy, hp, hy, qk⟩) (U := ⟨k, n, A', xs, cap', sf, da, pu, sy ++ ⟨#[120]⟩, hp, hy, qk⟩) (.inr (.inr (.inr (.inr (.inr (.inr (.inr (.inr (.inl (catx_ne sy))))))))))
      have K7 := Lib.hid (HS7.out.same H0.out (by simp only; omega))
      rw [hts.1] at K7
      have HTS := Lib.hid hts.2
      clear hts hW7 S7
      refine K7.out.mono ?_
      rintro e8 w8 ⟨rfl, hb8⟩
      have HS8 := Lib.hid (HS7.out.below hb8)
      have K8 := Lib.hid (HS8.out.emas H0.out (by first | (simp only; omega) | (simp only [List.length_append, List.length_cons, List.length_nil]; omega)))
      rw [HTS.out] at K8
      clear a0 a1 a2 a3 a4 a5 a6 a7 a8 a9 b0 b1 b2 b3 b4 b5 b6 b7 b8 b9 hb8 K7 HS7
      obtain ⟨a0, a1, a2, a3, a4, a5, a6, a7, a8, a9⟩ := HS8.out.ta.cells
      obtain ⟨b0, b1, b2, b3, b4, b5, b6, b7, b8, b9⟩ := HS8.out.tb.cells
      simp only at a0 a1 a2 a3 a4 a5 a6 a7 a8 a9 b0 b1 b2 b3 b4 b5 b6 b7 b8 b9
      go_wp2_with fail
      refine K8.out.mono ?_
      rintro e9 w9 ⟨rfl, hb9⟩
      go_wp2
      go_ret
      exact ⟨rfl, (HS8.out.below hb9).bw⟩
    · have hcase := True.intro
      have f0 := HFZ.out 7
      go_wp2_with fail
      obtain ⟨W7, hW7⟩ : ∃ W7, w6.setCell ⟨w1.heap.size, 7, none⟩ (.bool (!hp)) = W7 := ⟨_, rfl⟩
      have S7 : St w w1.heap.size ⟨k, n, A, xs, cap, sf, da, pu, sy, hp, hy, qk⟩ ⟨k, n, A', xs, cap', sf, da, pu, sy, !hp, hy, qk⟩ W7 := by
        rw [← hW7]
        exact HS6.out.set (U' := ⟨k, n, A', xs, cap', sf, da, pu, sy, !hp, hy, qk⟩) 7 (.bool (!hp)) rfl rfl rfl rfl
      have HS7 := Lib.hid S7
      rw [hW7]
      have hts := tsm_ne (T := ⟨k, n, A, xs, cap, sf, da, pu, sy, hp, hy, qk⟩) (U := ⟨k, n, A', xs, cap', sf, da, pu, sy, !hp, hy, qk⟩) (.inr (.inr (.inr (.inr (.inr (.inl (by cases hp <;> simp)))))))
      have K7 := Lib.hid (HS7.out.same H0.out (by simp only; omega))
      rw [hts.1] at K7
      have HTS := Lib.hid hts.2
      clear hts hW7 S7
      refine K7.out.mono ?_
      rintro e8 w8 ⟨rfl, hb8⟩
      have HS8 := Lib.hid (HS7.out.below hb8)
      have K8 := Lib.hid (HS8.out.emas H0.out (by first | (simp only; omega) | (simp only [List.length_append, List.length_cons, List.length_nil]; omega)))
      rw [HTS.out] at K8
      clear a0 a1 a2 a3 a4 a5 a6 a7 a8 a9 b0 b1 b2 b3 b4 b5 b6 b7 b8 b9 hb8 K7 HS7
      obtain ⟨a0, a1, a2, a3, a4, a5, a6, a7, a8, a9⟩ := HS8.out.ta.cells
      obtain ⟨b0, b1, b2, b3, b4, b5, b6, b7, b8, b9⟩ := HS8.out.tb.cells
      simp only at a0 a1 a2 a3 a4 a5 a6 a7 a8 a9 b0 b1 b2 b3 b4 b5 b6 b7 b8 b9
      go_wp2_with fail
      refine K8.out.mono ?_
      rintro e9 w9 ⟨rfl, hb9⟩
      go_wp2
      go_ret
      exact ⟨rfl, (HS8.out.below hb9).bw⟩
    · have hcase := True.intro
      have f0 := HFZ.out 8
      go_wp2_with fail
      obtain ⟨W7, hW7⟩ : ∃ W7, w6.setCell ⟨w1.heap.size, 8, none⟩ (.bool (!hy)) = W7 := ⟨_, rfl⟩
      have S7 : St w w1.heap.size ⟨k, n, A, xs, cap, sf, da, pu, sy, hp, hy, qk⟩ ⟨k, n, A', xs, cap', sf, da, pu, sy, hp, !hy, qk⟩ W7 := by
        rw [← hW7]
        exact HS6.out.set (U' := ⟨k, n, A', xs, cap', sf, da, pu, sy, hp, !hy, qk⟩) 8 (.bool (!hy)) rfl rfl rfl rfl
      have HS7 := Lib.hid S7
      rw [hW7]
      have hts := tsm_ne (T := ⟨k, n, A, xs, cap, sf, da, pu, sy, hp, hy, qk⟩) (U := ⟨k, n, A', xs, cap', sf, da, pu, sy, hp, !hy, qk⟩) (.inr (.inr (.inr (.inr (.inr (.inr (.inr (.inl (by cases hy <;> simp)))))))))
      have K7 := Lib.hid (HS7.out.same H0.out (by simp only; omega))
      rw [hts.1] at K7
      have HTS := Lib.hid hts.2
      clear hts hW7 S7
      refine K7.out.mono ?_
      rintro e8 w8 ⟨rfl, hb8⟩
      have HS8 := Lib.hid (HS7.out.below hb8)
      have K8 := Lib.hid (HS8.out.emas H0.out (by first | (simp only; omega) | (simp only [List.length_append, List.length_cons, List.length_nil]; omega)))
      rw [HTS.out] at K8
      clear a0 a1 a2 a3 a4 a5 a6 a7 a8 a9 b0 b1 b2 b3 b4 b5 b6 b7 b8 b9 hb8 K7 HS7
      obtain ⟨a0, a1, a2, a3, a4, a5, a6, a7, a8, a9⟩ := HS8.out.ta.cells
      obtain ⟨b0, b1, b2, b3, b4, b5, b6, b7, b8, b9⟩ := HS8.out.tb.cells
      simp only at a0 a1 a2 a3 a4 a5 a6 a7 a8 a9 b0 b1 b2 b3 b4 b5 b6 b7 b8 b9
      go_wp2_with fail
      refine K8.out.mono ?_
      rintro e9 w9 ⟨rfl, hb9⟩
      go_wp2
      go_ret
      exact ⟨rfl, (HS8.out.below hb9).bw⟩
    · have hcase := True.intro
      have f0 := HFZ.out 9
      go_wp2_with fail
      obtain ⟨W7, hW7⟩ : ∃ W7, w6.setCell ⟨w1.heap.size, 9, none⟩ (.bool (!qk)) = W7 := ⟨_, rfl⟩
      have S7 : St w w1.heap.size ⟨k, n, A, xs, cap, sf, da, pu, sy, hp, hy, qk⟩ ⟨k, n, A', xs, cap', sf, da, pu, sy, hp, hy, !qk⟩ W7 := by
        rw [← hW7]
        exact HS6.out.set (U' := ⟨k, n, A', xs, cap', sf, da, pu, sy, hp, hy, !qk⟩) 9 (.bool (!qk)) rfl rfl rfl rfl
      have HS7 := Lib.hid S7
      rw [hW7]
      have hts := tsm_ne (T := ⟨k, n, A, xs, cap, sf, da, pu, sy, hp, hy, qk⟩) (U := ⟨k, n, A', xs, cap', sf, da, pu, sy, hp, hy, !qk⟩) (.inr (.inr (.inr (.inr (.inl (by cases qk <;> simp))))))
      have K7 := Lib.hid (HS7.out.same H0.out (by simp only; omega))
      rw [hts.1] at K7
      have HTS := Lib.hid hts.2
      clear hts hW7 S7
      refine K7.out.mono ?_
      rintro e8 w8 ⟨rfl, hb8⟩
      have HS8 := Lib.hid (HS7.out.below hb8)
      have K8 := Lib.hid (HS8.out.emas H0.out (by first | (simp only; omega) | (simp only [List.length_append, List.length_cons, List.length_nil]; omega)))
      rw [HTS.out] at K8
      clear a0 a1 a2 a3 a4 a5 a6 a7 a8 a9 b0 b1 b2 b3 b4 b5 b6 b7 b8 b9 hb8 K7 HS7
      obtain ⟨a0, a1, a2, a3, a4, a5, a6, a7, a8, a9⟩ := HS8.out.ta.cells
      obtain ⟨b0, b1, b2, b3, b4, b5, b6, b7, b8, b9⟩ := HS8.out.tb.cells
      simp only at a0 a1 a2 a3 a4 a5 a6 a7 a8 a9 b0 b1 b2 b3 b4 b5 b6 b7 b8 b9
      go_wp2_with fail
      refine K8.out.mono ?_
      rintro e9 w9 ⟨rfl, hb9⟩
      go_wp2
      go_ret
      exact ⟨rfl, (HS8.out.below hb9).bw⟩
    · have hxs := Lib.hid (show xs ≠ xs ++ [(⟨#[120]⟩, ⟨#[]⟩)] from fun e => by have := congrArg List.length e; simp at this)
      have ho6 := HS6.out.ho
      simp only at ho6
      have HO6 := Lib.hid ho6
      have hlt6 := HS6.out.tb.lt
      have hlt6a := HS6.out.lt
      have hbs6 := HS6.out.bw.size
      clear ho6
      go_wp2_with (at_builtin; refine wpList_append_rda rfl rfl (w1.heap.size + 1) _ _ _ rfl (HO6.out.alloc _) (some ⟨w6.heap.size, 0, none⟩) 1 1 rfl [(⟨#[120]⟩, ⟨#[]⟩)] rfl (rda_new (⟨#[120]⟩, ⟨#[]⟩) w6) (fun e => by cases e) (by omega) (by simp; omega) ?_)
      intro v7 w7 ho7 hg7 hl7
      have hrow := fun g e => (HO6.out.lt g e).1
      obtain ⟨A7, c7, hv7, hl77, _, _, _⟩ := RdA.own ho7
      subst hv7
      have TA7 : TkB w7 w.heap.size ⟨k, n, A, xs, cap, sf, da, pu, sy, hp, hy, qk⟩ := by
        refine (hg7.block _ (by simp; omega) (fun e => by have := hrow _ e.symm; omega)).trans ?_
        exact (Below.heap_alloc _ _ _ (by omega)).trans HS6.out.ta
      have TB7 : TkB w7 w1.heap.size ⟨k, n, A', xs, cap', sf, da, pu, sy, hp, hy, qk⟩ := by
        refine (hg7.block _ (by simp; omega) (fun e => by have := hrow _ e.symm; omega)).trans ?_
        exact (Below.heap_alloc _ _ _ (by omega)).trans HS6.out.tb
      have BW7 : Below w.heap.size w w7 := (HS6.out.bw.alloc hbs6 _).grown hg7 (by simp; omega) (fun g e => by have := hrow g e; omega)
      have HTA7 := Lib.hid TA7
      have HTB7 := Lib.hid TB7
      have HBW7 := Lib.hid BW7
      have HO7 := Lib.hid ho7
      clear a0 a1 a2 a3 a4 a5 a6 a7 a8 a9 b0 b1 b2 b3 b4 b5 b6 b7 b8 b9 TA7 TB7 BW7 ho7 hg7 hl7 hrow hl77
      obtain ⟨a0, a1, a2, a3, a4, a5, a6, a7, a8, a9⟩ := HTA7.out.cells
      obtain ⟨b0, b1, b2, b3, b4, b5, b6, b7, b8, b9⟩ := HTB7.out.cells
      simp only at a0 a1 a2 a3 a4 a5 a6 a7 a8 a9 b0 b1 b2 b3 b4 b5 b6 b7 b8 b9
      have f0 := HTB7.out.fz 2
      go_wp2_with fail
      obtain ⟨W7, hW7⟩ : ∃ W7, w7.setCell ⟨w1.heap.size, 2, none⟩ (.slice A7 (xs.length + 1) c7) = W7 := ⟨_, rfl⟩
      have S7 : St w w1.heap.size ⟨k, n, A, xs, cap, sf, da, pu, sy, hp, hy, qk⟩ ⟨k, n, A7, xs ++ [(⟨#[120]⟩, ⟨#[]⟩)], c7, sf, da, pu, sy, hp, hy, qk⟩ W7 := by
        rw [← hW7]
        exact ⟨HTA7.out.far (p := ⟨w1.heap.size, 2, none⟩) (by simp; omega) _, HTB7.out.set (by simp), own_setCell (by simpa using HO7.out) ⟨w1.heap.size, 2, none⟩ (Nat.lt_succ_self _) _, HBW7.out.setCell (p := ⟨w1.heap.size, 2, none⟩) (by simp; omega) _, hlt6a⟩
      have HS7 := Lib.hid S7
      rw [hW7]
      have hts := tsm_ne (T := ⟨k, n, A, xs, cap, sf, da, pu, sy, hp, hy, qk⟩) (U := ⟨k, n, A7, xs ++ [(⟨#[120]⟩, ⟨#[]⟩)], c7, sf, da, pu, sy, hp, hy, qk⟩) (.inr (.inr (.inr (.inr (.inr (.inr (.inr (.inr (.inr hxs.out)))))))))
      have K7 := Lib.hid (HS7.out.same H0.out (by simp only; omega))
      rw [hts.1] at K7
      simp only [TokV.cs, List.length_append, List.length_cons, List.length_nil, Nat.zero_add] at K7
      have HTS := Lib.hid hts.2
      clear hts hW7 S7
      refine K7.out.mono ?_
      rintro e8 w8 ⟨rfl, hb8⟩
      have HS8 := Lib.hid (HS7.out.below hb8)
      have K8 := Lib.hid (HS8.out.emas H0.out (by first | (simp only; omega) | (simp only [List.length_append, List.length_cons, List.length_nil]; omega)))
      rw [HTS.out] at K8
      simp only [TokV.cs, List.length_append, List.length_cons, List.length_nil, Nat.zero_add] at K8
      clear a0 a1 a2 a3 a4 a5 a6 a7 a8 a9 b0 b1 b2 b3 b4 b5 b6 b7 b8 b9 hb8 K7 HS7
      obtain ⟨a0, a1, a2, a3, a4, a5, a6, a7, a8, a9⟩ := HS8.out.ta.cells
      obtain ⟨b0, b1, b2, b3, b4, b5, b6, b7, b8, b9⟩ := HS8.out.tb.cells
      simp only [List.length_append, List.length_cons, List.length_nil, Nat.zero_add] at a0 a1 a2 a3 a4 a5 a6 a7 a8 a9 b0 b1 b2 b3 b4 b5 b6 b7 b8 b9
      go_wp2_with fail
      refine K8.out.mono ?_
      rintro e9 w9 ⟨rfl, hb9⟩
      go_wp2
      go_ret
      exact ⟨rfl, (HS8.out.below hb9).bw⟩
    · have q0 : ((m : Int) == 0) = false := by simp; omega
      have q1 : ((m : Int) == 1) = false := by simp; omega
      have q2 : ((m : Int) == 2) = false := by simp; omega
      have q3 : ((m : Int) == 3) = false := by simp; omega
      have q4 : ((m : Int) == 4) = false := by simp; omega
      have q5 : ((m : Int) == 5) = false := by simp; omega
      have q6 : ((m : Int) == 6) = false := by simp; omega
      have q7 : ((m : Int) == 7) = false := by simp; omega
      have q8 : ((m : Int) == 8) = false := by simp; omega
      have q9 : ((m : Int) == 9) = false := by simp; omega
      by_cases hx0 : xs.length = 0
      · have hz0 : ((xs.length : Int) == 0) = true := by simp [hx0]
        have hz1 : (xs.length == 0) = true := by simp [hx0]
        clear hx0
        go_wp2
        go_ret
        exact ⟨rfl, HS6.out.bw⟩
      · have hz0 : ((xs.length : Int) == 0) = false := by rw [beq_eq_false_iff_ne]; omega
        have hz1 : (xs.length == 0) = false := by rw [beq_eq_false_iff_ne]; omega
        obtain ⟨x0, hx⟩ := get_lt (xs := xs) (k := 0) (by omega)
        have hrd := HS6.out.rd
        simp only at hrd
        obtain ⟨g, off, hA', hgl, d0, d1⟩ := hrd.at_ hx
        have ho6 := HS6.out.ho
        simp only at ho6
        subst hA'
        have hoff : off = 0 := by
          rcases ho6.2 with ⟨e, _⟩ | ⟨g', cap', cur, e, _⟩
          · cases e
          · injection e with e1 e2 e3
            injection e1 with e1
            injection e1
        subst hoff
        simp only [Nat.zero_mul, Nat.zero_add] at d0 d1
        have hgB : w1.heap.size + 1 ≤ g := (ho6.lt g rfl).1
        have fz := ho6.frozenAt 1
        have hst := fun (w : World) => run_string_add_sum (P := Try.prog) w x0.2 ⟨#[120]⟩ (catx_fit (HSZ.out.2.2.2.2 x0 (List.mem_of_getElem? hx)))
        have hn9 : ¬ (9223372036854775807 < x0.2.size + (⟨#[120]⟩ : ByteArray).size) := by have := catx_fit (HSZ.out.2.2.2.2 x0 (List.mem_of_getElem? hx)); omega
        have hlen9 : (0 : Int) < (xs.length : Int) := by omega
        have hlen8 : 0 < xs.length := by omega
        have HO6 := Lib.hid ho6
        have HX := Lib.hid hx
        have hngB : ¬ g = w1.heap.size := by omega
        have hnBg : ¬ w1.heap.size = g := by omega
        have hnga : ¬ g = w.heap.size := by have := HS6.out.lt; omega
        have hnag : ¬ w.heap.size = g := by have := HS6.out.lt; omega
        clear hx hrd ho6 hx0
        go_wp2
        go_region
        go_wp2_with fail
        have hxs := Lib.hid (show xs ≠ xs.set 0 (x0.1, x0.2 ++ ⟨#[120]⟩) from fun e => by
          have h0 := HX.out
          rw [e, List.getElem?_set_self (by omega)] at h0
          injection h0 with h0
          exact catx_ne x0.2 (congrArg Prod.snd h0).symm)
        have hgw : w.heap.size ≤ g := by have := HS6.out.lt; omega
        obtain ⟨W7, hW7⟩ : ∃ W7, (w6.setCell ⟨g, 1, none⟩ (.string (x0.2 ++ ⟨#[120]⟩))).drew = W7 := ⟨_, rfl⟩
        have S7 : St w w1.heap.size ⟨k, n, A, xs, cap, sf, da, pu, sy, hp, hy, qk⟩ ⟨k, n, some ⟨g, 0, none⟩, xs.set 0 (x0.1, x0.2 ++ ⟨#[120]⟩), cap', sf, da, pu, sy, hp, hy, qk⟩ W7 := by
          rw [← hW7]
          exact ⟨HS6.out.ta.far (p := ⟨g, 1, none⟩) (fun e => hnag e) _, by have := HS6.out.tb.far (p := ⟨g, 1, none⟩) (fun e => hnBg e) (.string (x0.2 ++ ⟨#[120]⟩)); unfold TkB TokV.cs at this ⊢; simp only [List.length_set]; exact this, by have := (HO6.out.stored 1 (.string (x0.2 ++ ⟨#[120]⟩))).1; have e := cellsA_set xs 0 x0 (x0.2 ++ ⟨#[120]⟩) HX.out; simp only [List.length_set]; rw [e]; exact this, below_drewN (HS6.out.bw.setCell (p := ⟨g, 1, none⟩) hgw _) 1, HS6.out.lt⟩
        have HS7 := Lib.hid S7
        rw [hW7]
        have hts := tsm_ne (T := ⟨k, n, A, xs, cap, sf, da, pu, sy, hp, hy, qk⟩) (U := ⟨k, n, some ⟨g, 0, none⟩, xs.set 0 (x0.1, x0.2 ++ ⟨#[120]⟩), cap', sf, da, pu, sy, hp, hy, qk⟩) (.inr (.inr (.inr (.inr (.inr (.inr (.inr (.inr (.inr hxs.out)))))))))
        have K7 := Lib.hid (HS7.out.same H0.out (by simp only; omega))
        rw [hts.1] at K7
        simp only [TokV.cs, List.length_set] at K7
        have HTS := Lib.hid hts.2
        clear hts hW7 S7
        refine K7.out.mono ?_
        rintro e8 w8 ⟨rfl, hb8⟩
        have HS8 := Lib.hid (HS7.out.below hb8)
        have K8 := Lib.hid (HS8.out.emas H0.out (by simp only [List.length_set]; omega))
        rw [HTS.out] at K8
        simp only [TokV.cs, List.length_set] at K8
        clear a0 a1 a2 a3 a4 a5 a6 a7 a8 a9 b0 b1 b2 b3 b4 b5 b6 b7 b8 b9 hb8 K7 HS7
        obtain ⟨a0, a1, a2, a3, a4, a5, a6, a7, a8, a9⟩ := HS8.out.ta.cells
        obtain ⟨b0, b1, b2, b3, b4, b5, b6, b7, b8, b9⟩ := HS8.out.tb.cells
        simp only [List.length_set] at a0 a1 a2 a3 a4 a5 a6 a7 a8 a9 b0 b1 b2 b3 b4 b5 b6 b7 b8 b9
        go_wp2_with fail
        refine K8.out.mono ?_
        rintro e9 w9 ⟨rfl, hb9⟩
        go_wp2
        go_ret
        exact ⟨rfl, (HS8.out.below hb9).bw⟩
  · have hg : decide (30 < xs.length) = true := decide_eq_true (by omega)
    have hg2 : decide ((30 : Int) < (xs.length : Int)) = true := decide_eq_true (by omega)
    go_enter Try.func4, Try.ntmps4
    go_wp2_with fail
    refine KH.out.mono ?_
    rintro e1 w1 ⟨rfl, hb1⟩
    obtain ⟨a0, a1, a2, a3, a4, a5, a6, a7, a8, a9⟩ := (HTK.out.below hb1).cells
    go_wp2
    go_ret
    exact ⟨rfl, HBX.out.trans (hb1.mono HBX.out.size)⟩

end Go.Proofs.Ytanbbomdidefjaa
