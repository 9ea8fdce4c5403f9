/- The closure that holds two nodes against each other. -/
import Derived.Test.YtodlcfhkiilpgaaJo
import Derived.Deep.QuietTactic
import Derived.Deep.DeepCutAuto
namespace Go.Proofs.Ytodlcfhkiilpgaa
open Go.RowKit Go.Shelf Go.Lib
attribute [local go_sem] Oper.semAt_some

section
variable {b1 D1 : Nat} {v1 : Value} {q1 : Bool} {xs : List Nd} {b2 D2 : Nat} {v2 : Value} {q2 : Bool} {ys : List Nd} {E : Nat} {l l' : Int} {W W' : World}
theorem VS.drewN (h : VS b1 D1 v1 q1 xs b2 D2 v2 q2 ys E l W) (q : Nat) : VS b1 D1 v1 q1 xs b2 D2 v2 q2 ys E l (W.drewN q) := h.turn (Frm.drewN _ _ _) h.bl
set_option maxHeartbeats 1000000 in
/-- one of both isn't there -/
theorem same_none (m n : Int) (lv : Int) (hn : (inN xs m && inN ys n) = false) (hv : VS b1 D1 v1 q1 xs b2 D2 v2 q2 ys E lv W) :
    Calls Try.prog 59 #[.int .i64 m, .int .i64 n, .pointer (some ⟨E, 0, none⟩), .pointer (some ⟨E + 1, 0, none⟩), .pointer (some ⟨E + 2, 0, none⟩), .pointer (some ⟨E + 3, 0, none⟩)] W (SP b1 D1 v1 q1 xs b2 D2 v2 q2 ys E lv (inN xs m == inN ys n) W) := by
  have K1 := Lib.hid (has_any m W hv.d1)
  have K2 := Lib.hid (has_any n W hv.d2)
  have Q1 := Lib.hid (fun q => has_any m (W.drewN q) (hv.drewN q).d1)
  have Q2 := Lib.hid (fun q => has_any n (W.drewN q) (hv.drewN q).d2)
  obtain ⟨c1, c2, c3, f3, c4⟩ := hv.cells
  have HFIN : Hid (∀ q b, SP b1 D1 v1 q1 xs b2 D2 v2 q2 ys E lv b W (.returned (.bool b)) (W.drewN q)) := Lib.hid (fun q b => ⟨rfl, ⟨lv, hv.drewN q, fun _ => rfl⟩, Frm.drewN _ _ _⟩)
  clear hv
  obtain ⟨a, ha⟩ : ∃ a, inN xs m = a := ⟨_, rfl⟩
  obtain ⟨b, hb⟩ : ∃ b, inN ys n = b := ⟨_, rfl⟩
  rw [ha] at hn K1 Q1 ⊢
  rw [hb] at hn K2 Q2 ⊢
  clear ha hb
  cases a with
  | false =>
    clear hn K2
    go_enter Try.func59, Try.ntmps59
    go_wp2_with fail
    refine K1.out.mono ?_
    rintro e w1 ⟨rfl, rfl⟩
    go_wp2_with fail
    go_quiet (first | (go_at_call 35; with_reducible exact Calls.quiet_of_same (Q1.out _)) | (go_at_call 35; with_reducible exact Calls.quiet_of_same (Q2.out _)))
    go_wp2
    go_ret
    cases b <;> exact HFIN.out _ _
  | true =>
    rw [Bool.true_and] at hn
    subst hn
    go_enter Try.func59, Try.ntmps59
    go_wp2_with fail
    refine K1.out.mono ?_
    rintro e w1 ⟨rfl, rfl⟩
    go_wp2_with fail
    refine K2.out.mono ?_
    rintro e w1 ⟨rfl, rfl⟩
    go_wp2_with fail
    go_quiet (first | (go_at_call 35; with_reducible exact Calls.quiet_of_same (Q1.out _)) | (go_at_call 35; with_reducible exact Calls.quiet_of_same (Q2.out _)))
    go_wp2
    go_ret
    exact HFIN.out _ _
theorem eq_none {k : Nat} {ns : List Nd} {x : Nd} {base D : Nat} {qk : Bool} {g cap : Nat} {W : World} (h : DocM base D (.slice (some ⟨g, 0, none⟩) ns.length cap) qk ns W) (hx : ns[k]? = some x) : W.cell? ⟨g, k * 10, none⟩ = some (.int .i64 x.kind) ∧ W.cell? ⟨g, k * 10 + 1, none⟩ = some (.int .i64 x.space) ∧ W.cell? ⟨g, k * 10 + 2, none⟩ = some (.string x.name) ∧ W.cell? ⟨g, k * 10 + 3, none⟩ = some (.string x.data) ∧ W.cell? ⟨g, k * 10 + 4, none⟩ = some (.slice x.aA x.attrs.length x.ac) ∧ W.cell? ⟨g, k * 10 + 5, none⟩ = some (.string x.pub) ∧ W.cell? ⟨g, k * 10 + 6, none⟩ = some (.string x.sys) ∧ W.cell? ⟨g, k * 10 + 7, none⟩ = some (.int .i64 x.up) ∧ W.cell? ⟨g, k * 10 + 8, none⟩ = some x.kv ∧ W.cell? ⟨g, k * 10 + 9, none⟩ = some (.int .i64 x.inner) :=
  ⟨h.cell hx (show 0 < 10 by omega), h.cell hx (show 1 < 10 by omega), h.cell hx (show 2 < 10 by omega), h.cell hx (show 3 < 10 by omega), h.cell hx (show 4 < 10 by omega), h.cell hx (show 5 < 10 by omega), h.cell hx (show 6 < 10 by omega), h.cell hx (show 7 < 10 by omega), h.cell hx (show 8 < 10 by omega), h.cell hx (show 9 < 10 by omega)⟩
/-- both nodes, each copied into a box of its own -/
def CU (p q : Nat) (x y : Nd) (V w : World) : Prop := w.heap[p]? = some (.cells x.cs.toArray 29 (0, 0)) ∧ w.heap[q]? = some (.cells y.cs.toArray 29 (0, 0)) ∧ Below V.heap.size V w ∧ V.heap.size ≤ p ∧ V.heap.size ≤ q
/-- what two blocks more leave -/
def CUA (V : World) (o1 o2 : Array Value) : Prop :=
  (((V.alloc (.cells o1 29)).alloc (.cells o2 29)).drew.heap[V.heap.size]? = some (.cells o1 29 (0, 0)) ∧ ((V.alloc (.cells o1 29)).alloc (.cells o2 29)).drew.heap[V.heap.size + 1]? = some (.cells o2 29 (0, 0)) ∧ Below V.heap.size V ((V.alloc (.cells o1 29)).alloc (.cells o2 29)).drew ∧ V.heap.size ≤ V.heap.size ∧ V.heap.size ≤ V.heap.size + 1) ∧
  (((V.alloc (.cells o2 29)).alloc (.cells o1 29)).drew.heap[V.heap.size + 1]? = some (.cells o1 29 (0, 0)) ∧ ((V.alloc (.cells o2 29)).alloc (.cells o1 29)).drew.heap[V.heap.size]? = some (.cells o2 29 (0, 0)) ∧ Below V.heap.size V ((V.alloc (.cells o2 29)).alloc (.cells o1 29)).drew ∧ V.heap.size ≤ V.heap.size + 1 ∧ V.heap.size ≤ V.heap.size)
theorem cua (V : World) (o1 o2 : Array Value) : CUA V o1 o2 := by
  have k : ∀ a b : Obj, ((V.alloc a).alloc b).heap[V.heap.size]? = some a ∧ ((V.alloc a).alloc b).heap[V.heap.size + 1]? = some b ∧ Below V.heap.size V ((V.alloc a).alloc b).drew := fun a b => by
    refine ⟨(Below.heap_alloc _ _ _ (by rw [World.size_alloc]; omega)).trans (heap_alloc_new V a), ?_, (((Below.refl _ V).alloc (Nat.le_refl _) _).alloc (by rw [World.size_alloc]; omega) _).drew⟩
    have := heap_alloc_new (V.alloc a) b
    rwa [World.size_alloc] at this
  obtain ⟨a1, a2, a3⟩ := k (.cells o1 29) (.cells o2 29)
  obtain ⟨e1, e2, e3⟩ := k (.cells o2 29) (.cells o1 29)
  exact ⟨⟨a1, a2, a3, by omega, by omega⟩, ⟨e2, e1, e3, by omega, by omega⟩⟩
theorem box10 {w : World} {p : Nat} {x : Nd} (h : w.heap[p]? = some (.cells x.cs.toArray 29 (0, 0))) {xa : Option Addr} {xc : Nat} (hk : x.kv = .slice xa x.kids.length xc) : w.cell? ⟨p, 0, none⟩ = some (.int .i64 x.kind) ∧ w.cell? ⟨p, 1, none⟩ = some (.int .i64 x.space) ∧ w.cell? ⟨p, 2, none⟩ = some (.string x.name) ∧ w.cell? ⟨p, 3, none⟩ = some (.string x.data) ∧ w.cell? ⟨p, 4, none⟩ = some (.slice x.aA x.attrs.length x.ac) ∧ w.cell? ⟨p, 5, none⟩ = some (.string x.pub) ∧ w.cell? ⟨p, 6, none⟩ = some (.string x.sys) ∧ w.cell? ⟨p, 7, none⟩ = some (.int .i64 x.up) ∧ w.cell? ⟨p, 8, none⟩ = some (.slice xa x.kids.length xc) ∧ w.cell? ⟨p, 9, none⟩ = some (.int .i64 x.inner) := by
  refine ⟨?_, ?_, ?_, ?_, ?_, ?_, ?_, ?_, ?_, ?_⟩
  all_goals first | (rw [cell_of_row _ _ _ _ _ _ h]; rfl) | (rw [cell_of_row _ _ _ _ _ _ h, ← hk]; rfl)
set_option maxHeartbeats 16000000 in
set_option maxRecDepth 100000 in
theorem same_both (i j : Nat) (x y : Nd) (lv : Int) (b : Bool) (l : Int) (hx : xs[i]? = some x) (hy : ys[j]? = some y) (hl : 0 ≤ lv ∧ lv ≤ 1000000) (hv : VS b1 D1 v1 q1 xs b2 D2 v2 q2 ys E lv W)
    (hxl : x.attrs.length ≤ 1000000) (b13 : Bool) (l2 : Int)
    (hout : lv ≤ 0 ∨ ndS x y = false → b = false)
    (heq : 0 < lv → ndS x y = true → ∀ w2, VS b1 D1 v1 q1 xs b2 D2 v2 q2 ys E (lv - 1) w2 → Calls Try.prog 61 #[x.kv, y.kv, .func (.func 59) #[] #[.pointer (some ⟨E, 0, none⟩), .pointer (some ⟨E + 1, 0, none⟩), .pointer (some ⟨E + 2, 0, none⟩), .pointer (some ⟨E + 3, 0, none⟩)]] w2 (SP b1 D1 v1 q1 xs b2 D2 v2 q2 ys E l2 b13 w2))
    (hb13 : 0 < lv → ndS x y = true → b13 = false → b = false)
    (hin : 0 < lv → ndS x y = true → b13 = true → ∀ w2, VS b1 D1 v1 q1 xs b2 D2 v2 q2 ys E l2 w2 → Calls Try.prog 59 #[.int .i64 (innN xs i), .int .i64 (innN ys j), .pointer (some ⟨E, 0, none⟩), .pointer (some ⟨E + 1, 0, none⟩), .pointer (some ⟨E + 2, 0, none⟩), .pointer (some ⟨E + 3, 0, none⟩)] w2 (SP b1 D1 v1 q1 xs b2 D2 v2 q2 ys E l b w2)) :
    Calls Try.prog 59 #[.int .i64 i, .int .i64 j, .pointer (some ⟨E, 0, none⟩), .pointer (some ⟨E + 1, 0, none⟩), .pointer (some ⟨E + 2, 0, none⟩), .pointer (some ⟨E + 3, 0, none⟩)] W (SP b1 D1 v1 q1 xs b2 D2 v2 q2 ys E l b W) := by
  have K1 := Lib.hid (has_any i W hv.d1)
  have K2 := Lib.hid (has_any j W hv.d2)
  rw [inN_of hx] at K1
  rw [inN_of hy] at K2
  obtain ⟨hvs, hfs⟩ := hv.set (lv - 1)
  obtain ⟨c1, c2, c3, f3, c4⟩ := hv.cells
  obtain ⟨V, hV⟩ : ∃ V, W.setCell ⟨E + 2, 0, none⟩ (.int .i64 (lv - 1)) = V := ⟨_, rfl⟩
  have HVV := Lib.hid hV
  rw [hV] at hvs hfs
  obtain ⟨A1, ca1, rfl, hle1, hmx1, hg1⟩ := hvs.d1.sl
  obtain ⟨A2, ca2, rfl, hle2, hmx2, hg2⟩ := hvs.d2.sl
  have hi := (List.getElem?_eq_some_iff.1 hx).1
  have hj := (List.getElem?_eq_some_iff.1 hy).1
  obtain ⟨G1, rfl, _, hG1⟩ := hg1 (by omega)
  obtain ⟨G2, rfl, _, hG2⟩ := hg2 (by omega)
  obtain ⟨xa, xc, hxk⟩ := own_slice (hvs.d1.kids i x hx)
  obtain ⟨ya, yc, hyk⟩ := own_slice (hvs.d2.kids j y hy)
  have HVS := Lib.hid hvs
  have HFS := Lib.hid hfs
  have HX := Lib.hid hx
  have HY := Lib.hid hy
  have HXK := Lib.hid hxk
  have HYK := Lib.hid hyk
  have HXL := Lib.hid hxl
  have HOUT := Lib.hid hout
  rw [hxk, hyk] at heq
  have HEQ := Lib.hid heq
  have HB13 := Lib.hid hb13
  have HIN := Lib.hid hin
  unfold maxLen at hmx1 hmx2
  clear hv hvs hfs hV hx hy hg1 hg2 hxk hyk hxl hout heq hb13 hin
  go_enter Try.func59, Try.ntmps59
  go_wp2_with fail
  refine K1.out.mono ?_
  rintro e w1 ⟨rfl, hw⟩
  rw [hw]
  clear hw w1
  go_wp2_with fail
  refine K2.out.mono ?_
  rintro e w1 ⟨rfl, hw⟩
  rw [hw]
  clear hw w1
  go_upto_region 4 with fail
  rw [HVV.out]
  clear c1 c2 c3 f3 c4 K1 K2
  go_cut [9, 10] from 30 to 43 (fun s9 s10 wx => ∃ p q : Nat, s9 = .pointer (some ⟨p, 0, none⟩) ∧ s10 = .pointer (some ⟨q, 0, none⟩) ∧ Hid (CU p q x y V wx))
  case first =>
    obtain ⟨k1, k2, k3, g3, k4⟩ := HVS.out.cells
    have z1 := HVS.out.d1.cells.1
    have z2 := HVS.out.d2.cells.1
    obtain ⟨x0, x1, x2, x3, x4, x5, x6, x7, x8, x9⟩ := eq_none HVS.out.d1 HX.out
    obtain ⟨y0, y1, y2, y3, y4, y5, y6, y7, y8, y9⟩ := eq_none HVS.out.d2 HY.out
    rw [HXK.out] at x8
    rw [HYK.out] at y8
    have hE := HVS.out.size
    have hD1 := HVS.out.d1.lt
    have hD2 := HVS.out.d2.lt
    have hE0 : E < V.heap.size := by omega
    have hE1 : E + 1 < V.heap.size := by omega
    have HCS : Hid (x.cs.toArray = #[.int .i64 x.kind, .int .i64 x.space, .string x.name, .string x.data, .slice x.aA x.attrs.length x.ac, .string x.pub, .string x.sys, .int .i64 x.up, .slice xa x.kids.length xc, .int .i64 x.inner]) := Lib.hid (by unfold Nd.cs; rw [HXK.out])
    have HCT : Hid (y.cs.toArray = #[.int .i64 y.kind, .int .i64 y.space, .string y.name, .string y.data, .slice y.aA y.attrs.length y.ac, .string y.pub, .string y.sys, .int .i64 y.up, .slice ya y.kids.length yc, .int .i64 y.inner]) := Lib.hid (by unfold Nd.cs; rw [HYK.out])
    have HAL : Hid (∀ (o1 o2 : Array Value), CUA V o1 o2) := Lib.hid (fun o1 o2 => cua V o1 o2)
    go_region
    · go_wp2_with fail
      go_meet
      exact ⟨_, _, rfl, rfl, Lib.hid (by unfold CU; rw [HCS.out, HCT.out]; exact (HAL.out _ _).1)⟩
    · go_wp2_with fail
      go_meet
      exact ⟨_, _, rfl, rfl, Lib.hid (by unfold CU; rw [HCS.out, HCT.out]; exact (HAL.out _ _).2)⟩
  case rest =>
    obtain ⟨p, q, rfl, rfl, HCU⟩ := hcut
    obtain ⟨m1, m2, m3, m4, m5⟩ := HCU.out
    have HVC := Lib.hid (HVS.out.below m3)
    have HFC : Hid (Frm (fun k => k = E + 2) W wc) := Lib.hid (HFS.out.trans (Frm.below m3))
    have hEs := HVS.out.size
    have HSS : Hid (∀ w', Frm (fun k => k = E + 2) wc w' → (fun w' => w'.cell? ⟨E, 0, none⟩ = some (.pointer (some ⟨D1, 0, none⟩)) ∧ w'.cell? ⟨E + 1, 0, none⟩ = some (.pointer (some ⟨D2, 0, none⟩)) ∧ w'.cell? ⟨E + 3, 0, none⟩ = some (.func (.func 59) #[] #[.pointer (some ⟨E, 0, none⟩), .pointer (some ⟨E + 1, 0, none⟩), .pointer (some ⟨E + 2, 0, none⟩), .pointer (some ⟨E + 3, 0, none⟩)]) ∧ w'.cell? ⟨p, 0, none⟩ = some (.int .i64 x.kind) ∧ w'.cell? ⟨p, 1, none⟩ = some (.int .i64 x.space) ∧ w'.cell? ⟨p, 2, none⟩ = some (.string x.name) ∧ w'.cell? ⟨p, 3, none⟩ = some (.string x.data) ∧ w'.cell? ⟨p, 4, none⟩ = some (.slice x.aA x.attrs.length x.ac) ∧ w'.cell? ⟨p, 5, none⟩ = some (.string x.pub) ∧ w'.cell? ⟨p, 6, none⟩ = some (.string x.sys) ∧ w'.cell? ⟨p, 7, none⟩ = some (.int .i64 x.up) ∧ w'.cell? ⟨p, 8, none⟩ = some (.slice xa x.kids.length xc) ∧ w'.cell? ⟨p, 9, none⟩ = some (.int .i64 x.inner) ∧ w'.cell? ⟨q, 0, none⟩ = some (.int .i64 y.kind) ∧ w'.cell? ⟨q, 1, none⟩ = some (.int .i64 y.space) ∧ w'.cell? ⟨q, 2, none⟩ = some (.string y.name) ∧ w'.cell? ⟨q, 3, none⟩ = some (.string y.data) ∧ w'.cell? ⟨q, 4, none⟩ = some (.slice y.aA y.attrs.length y.ac) ∧ w'.cell? ⟨q, 5, none⟩ = some (.string y.pub) ∧ w'.cell? ⟨q, 6, none⟩ = some (.string y.sys) ∧ w'.cell? ⟨q, 7, none⟩ = some (.int .i64 y.up) ∧ w'.cell? ⟨q, 8, none⟩ = some (.slice ya y.kids.length yc) ∧ w'.cell? ⟨q, 9, none⟩ = some (.int .i64 y.inner)) w') := Lib.hid (fun w' hf => by
      have hpz := (Array.getElem?_eq_some_iff.1 m1).1
      have hqz := (Array.getElem?_eq_some_iff.1 m2).1
      have n1 := (hf.block p hpz (by omega)).trans m1
      have n2 := (hf.block q hqz (by omega)).trans m2
      have e0 := (hf.block E (by have := (Array.getElem?_eq_some_iff.1 HVC.out.ba).1; omega) (by omega)).trans HVC.out.ba
      have e1 := (hf.block (E + 1) (by have := (Array.getElem?_eq_some_iff.1 HVC.out.bb).1; omega) (by omega)).trans HVC.out.bb
      have e3 := (hf.block (E + 3) (by have := (Array.getElem?_eq_some_iff.1 HVC.out.bs).1; omega) (by omega)).trans HVC.out.bs
      obtain ⟨r0, r1, r2, r3, r4, r5, r6, r7, r8, r9⟩ := box10 n1 HXK.out
      obtain ⟨t0, t1, t2, t3, t4, t5, t6, t7, t8, t9⟩ := box10 n2 HYK.out
      exact ⟨by rw [cell_of_row _ _ _ _ _ _ e0]; rfl, by rw [cell_of_row _ _ _ _ _ _ e1]; rfl, by rw [cell_of_row _ _ _ _ _ _ e3]; rfl, r0, r1, r2, r3, r4, r5, r6, r7, r8, r9, t0, t1, t2, t3, t4, t5, t6, t7, t8, t9⟩)
    clear HCU m1 m2 m3 m4 m5 hEs
    obtain ⟨lw, hlw⟩ : ∃ z, lv - 1 = z := ⟨_, rfl⟩
    have cl : wc.drew.cell? ⟨E + 2, 0, none⟩ = some (.int .i64 lw) := by rw [← hlw]; exact HVC.out.cells.2.2.1
    have HLW := Lib.hid hlw
    clear hlw
    have HV0 : Hid (VS b1 D1 (Value.slice (some ⟨G1, 0, none⟩) xs.length ca1) q1 xs b2 D2 (Value.slice (some ⟨G2, 0, none⟩) ys.length ca2) q2 ys E (lv - 1) wc.drew) := Lib.hid (HVC.out.drewN 1)
    have HF0 : Hid (Frm (fun k => k = E + 2) wc wc.drew) := Lib.hid (Frm.drewN _ wc 1)
    have HCS : x.cs.toArray = #[.int .i64 x.kind, .int .i64 x.space, .string x.name, .string x.data, .slice x.aA x.attrs.length x.ac, .string x.pub, .string x.sys, .int .i64 x.up, .slice xa x.kids.length xc, .int .i64 x.inner] := by unfold Nd.cs; rw [HXK.out]
    have HCT : y.cs.toArray = #[.int .i64 y.kind, .int .i64 y.space, .string y.name, .string y.data, .slice y.aA y.attrs.length y.ac, .string y.pub, .string y.sys, .int .i64 y.up, .slice ya y.kids.length yc, .int .i64 y.inner] := by unfold Nd.cs; rw [HYK.out]
    have kal := alike_any x y wc.drew (HV0.out.d1.atr HX.out).1 (HV0.out.d2.atr HY.out).1 HXL.out
    rw [HCS, HCT] at kal
    obtain ⟨al, hal⟩ : ∃ z, ndS x y = z := ⟨_, rfl⟩
    rw [hal] at kal HOUT HEQ HB13 HIN
    have KAL := Lib.hid kal
    clear HVS HVC HFS HVV HCS HCT kal hal
    go_upto_region 5 with fail
    rename_i HKK
    have HSD := HSS.out _ HF0.out
    refine wp_region_held_drew (S := (fun w' => w'.cell? ⟨E, 0, none⟩ = some (.pointer (some ⟨D1, 0, none⟩)) ∧ w'.cell? ⟨E + 1, 0, none⟩ = some (.pointer (some ⟨D2, 0, none⟩)) ∧ w'.cell? ⟨E + 3, 0, none⟩ = some (.func (.func 59) #[] #[.pointer (some ⟨E, 0, none⟩), .pointer (some ⟨E + 1, 0, none⟩), .pointer (some ⟨E + 2, 0, none⟩), .pointer (some ⟨E + 3, 0, none⟩)]) ∧ w'.cell? ⟨p, 0, none⟩ = some (.int .i64 x.kind) ∧ w'.cell? ⟨p, 1, none⟩ = some (.int .i64 x.space) ∧ w'.cell? ⟨p, 2, none⟩ = some (.string x.name) ∧ w'.cell? ⟨p, 3, none⟩ = some (.string x.data) ∧ w'.cell? ⟨p, 4, none⟩ = some (.slice x.aA x.attrs.length x.ac) ∧ w'.cell? ⟨p, 5, none⟩ = some (.string x.pub) ∧ w'.cell? ⟨p, 6, none⟩ = some (.string x.sys) ∧ w'.cell? ⟨p, 7, none⟩ = some (.int .i64 x.up) ∧ w'.cell? ⟨p, 8, none⟩ = some (.slice xa x.kids.length xc) ∧ w'.cell? ⟨p, 9, none⟩ = some (.int .i64 x.inner) ∧ w'.cell? ⟨q, 0, none⟩ = some (.int .i64 y.kind) ∧ w'.cell? ⟨q, 1, none⟩ = some (.int .i64 y.space) ∧ w'.cell? ⟨q, 2, none⟩ = some (.string y.name) ∧ w'.cell? ⟨q, 3, none⟩ = some (.string y.data) ∧ w'.cell? ⟨q, 4, none⟩ = some (.slice y.aA y.attrs.length y.ac) ∧ w'.cell? ⟨q, 5, none⟩ = some (.string y.pub) ∧ w'.cell? ⟨q, 6, none⟩ = some (.string y.sys) ∧ w'.cell? ⟨q, 7, none⟩ = some (.int .i64 y.up) ∧ w'.cell? ⟨q, 8, none⟩ = some (.slice ya y.kids.length yc) ∧ w'.cell? ⟨q, 9, none⟩ = some (.int .i64 y.inner))) (by kernel_rfl) HSD (fun hHeld => ?_)
    clear HSD
    refine wpAnyH_ready (rs := [0]) (by kernel_rfl) (by simp) ?_
    refine AllReadyH.cons (o := _) rfl (fun K hK => ?_) AllReadyH.nil
    go_simp
    refine hK.out _ _ hHeld (fun _ => ?_)
    clear hK K
    try simp only [Act.put, List.getElem_toArray, List.getElem_cons_succ, List.getElem_cons_zero, List.setIfInBounds_toArray, List.set_cons_zero, List.set_cons_succ]
    by_cases h0 : 0 < lv
    · have d0 : decide ((0 : Int) ≤ lw) = true := decide_eq_true (by have := HLW.out; omega)
      refine wpAnyH_take (i := 1) (oi := _) (v := ?_) rfl (by kernel_rfl) (by kernel_rfl) (by kernel_rfl) (fun _ _ _ h => h) (Or.inl ⟨by rfl, ?_⟩) (by assumption) ?_
      rotate_left 1
      · intro w hSw; (try dsimp only at hSw); go_simp; first | done | with_reducible rfl
      try simp only [Act.put, List.getElem_toArray, List.getElem_cons_succ, List.getElem_cons_zero, List.setIfInBounds_toArray, List.set_cons_zero, List.set_cons_succ]
      refine wpAnyH_take (i := 2) (oi := _) (v := ?_) rfl (by kernel_rfl) (by kernel_rfl) (by kernel_rfl) (fun _ _ _ h => h) (Or.inl ⟨by rfl, ?_⟩) (by assumption) ?_
      rotate_left 1
      · intro w hSw; (try dsimp only at hSw); go_simp; first | done | with_reducible rfl
      try simp only [Act.put, List.getElem_toArray, List.getElem_cons_succ, List.getElem_cons_zero, List.setIfInBounds_toArray, List.set_cons_zero, List.set_cons_succ]
      refine wpAnyH_take (i := 3) (oi := _) (v := ?_) rfl (by kernel_rfl) (by kernel_rfl) (by kernel_rfl) (fun _ _ _ h => h) (Or.inl ⟨by rfl, ?_⟩) (by assumption) ?_
      rotate_left 1
      · intro w hSw; (try dsimp only at hSw); go_simp; first | done | with_reducible rfl
      try simp only [Act.put, List.getElem_toArray, List.getElem_cons_succ, List.getElem_cons_zero, List.setIfInBounds_toArray, List.set_cons_zero, List.set_cons_succ]
      refine wpAnyH_take (i := 4) (oi := _) (v := ?_) rfl (by kernel_rfl) (by kernel_rfl) (by kernel_rfl) (fun _ _ _ h => h) (Or.inl ⟨by rfl, ?_⟩) (by assumption) ?_
      rotate_left 1
      · intro w hSw; (try dsimp only at hSw); go_simp; first | done | with_reducible rfl
      try simp only [Act.put, List.getElem_toArray, List.getElem_cons_succ, List.getElem_cons_zero, List.setIfInBounds_toArray, List.set_cons_zero, List.set_cons_succ]
      refine wpAnyH_ready (rs := [5]) (by kernel_rfl) (by simp) ?_
      refine AllReadyH.cons (o := _) rfl (fun K hK => ?_) AllReadyH.nil
      go_simp
      go_at_call 60
      refine KAL.out.mono ?_
      rintro e w2 ⟨rfl, hb2⟩
      have HF2 : Hid (Frm (fun k => k = E + 2) wc w2) := Lib.hid (HF0.out.trans (Frm.below hb2))
      have HV2 := Lib.hid (HV0.out.below hb2)
      clear hb2
      refine hK.out _ _ (HSS.out _ HF2.out) (fun hHeld => ?_)
      clear hK K
      try simp only [Act.put, List.getElem_toArray, List.getElem_cons_succ, List.getElem_cons_zero, List.setIfInBounds_toArray, List.set_cons_zero, List.set_cons_succ]
      clear KAL HV0 HF0 cl
      cases al with
      | false =>
        refine wpAnyH_take (i := 6) (oi := _) (v := ?_) rfl (by kernel_rfl) (by kernel_rfl) (by kernel_rfl) (fun _ _ _ h => h) (Or.inl ⟨by rfl, ?_⟩) (by assumption) ?_
        rotate_left 1
        · intro w hSw; (try dsimp only at hSw); go_simp; first | done | with_reducible rfl
        try simp only [Act.put, List.getElem_toArray, List.getElem_cons_succ, List.getElem_cons_zero, List.setIfInBounds_toArray, List.set_cons_zero, List.set_cons_succ]
        refine wpAnyH_take (i := 7) (oi := _) (v := ?_) rfl (by kernel_rfl) (by kernel_rfl) (by kernel_rfl) (fun _ _ _ h => h) (Or.inl ⟨by rfl, ?_⟩) (by assumption) ?_
        rotate_left 1
        · intro w hSw; (try dsimp only at hSw); go_simp; first | done | with_reducible rfl
        try simp only [Act.put, List.getElem_toArray, List.getElem_cons_succ, List.getElem_cons_zero, List.setIfInBounds_toArray, List.set_cons_zero, List.set_cons_succ]
        refine wpAnyH_take (i := 8) (oi := _) (v := undef) rfl (by kernel_rfl) (by kernel_rfl) (by kernel_rfl) (fun _ _ _ h => h) (Or.inr ⟨by rfl, rfl⟩) (by assumption) ?_
        try simp only [Act.put, List.getElem_toArray, List.getElem_cons_succ, List.getElem_cons_zero, List.setIfInBounds_toArray, List.set_cons_zero, List.set_cons_succ]
        refine wpAnyH_take (i := 9) (oi := _) (v := undef) rfl (by kernel_rfl) (by kernel_rfl) (by kernel_rfl) (fun _ _ _ h => h) (Or.inr ⟨by rfl, rfl⟩) (by assumption) ?_
        try simp only [Act.put, List.getElem_toArray, List.getElem_cons_succ, List.getElem_cons_zero, List.setIfInBounds_toArray, List.set_cons_zero, List.set_cons_succ]
        refine wpAnyH_take (i := 10) (oi := _) (v := undef) rfl (by kernel_rfl) (by kernel_rfl) (by kernel_rfl) (fun _ _ _ h => h) (Or.inr ⟨by rfl, rfl⟩) (by assumption) ?_
        try simp only [Act.put, List.getElem_toArray, List.getElem_cons_succ, List.getElem_cons_zero, List.setIfInBounds_toArray, List.set_cons_zero, List.set_cons_succ]
        refine wpAnyH_take (i := 11) (oi := _) (v := undef) rfl (by kernel_rfl) (by kernel_rfl) (by kernel_rfl) (fun _ _ _ h => h) (Or.inr ⟨by rfl, rfl⟩) (by assumption) ?_
        try simp only [Act.put, List.getElem_toArray, List.getElem_cons_succ, List.getElem_cons_zero, List.setIfInBounds_toArray, List.set_cons_zero, List.set_cons_succ]
        refine wpAnyH_take (i := 12) (oi := _) (v := undef) rfl (by kernel_rfl) (by kernel_rfl) (by kernel_rfl) (fun _ _ _ h => h) (Or.inr ⟨by rfl, rfl⟩) (by assumption) ?_
        try simp only [Act.put, List.getElem_toArray, List.getElem_cons_succ, List.getElem_cons_zero, List.setIfInBounds_toArray, List.set_cons_zero, List.set_cons_succ]
        refine wpAnyH_take (i := 13) (oi := _) (v := undef) rfl (by kernel_rfl) (by kernel_rfl) (by kernel_rfl) (fun _ _ _ h => h) (Or.inr ⟨by rfl, rfl⟩) (by assumption) ?_
        try simp only [Act.put, List.getElem_toArray, List.getElem_cons_succ, List.getElem_cons_zero, List.setIfInBounds_toArray, List.set_cons_zero, List.set_cons_succ]
        refine wpAnyH_take (i := 14) (oi := _) (v := ?_) rfl (by kernel_rfl) (by kernel_rfl) (by kernel_rfl) (fun _ _ _ h => h) (Or.inl ⟨by rfl, ?_⟩) (by assumption) ?_
        rotate_left 1
        · intro w hSw; (try dsimp only at hSw); go_simp; first | done | with_reducible rfl
        try simp only [Act.put, List.getElem_toArray, List.getElem_cons_succ, List.getElem_cons_zero, List.setIfInBounds_toArray, List.set_cons_zero, List.set_cons_succ]
        refine wpAnyH_take (i := 15) (oi := _) (v := ?_) rfl (by kernel_rfl) (by kernel_rfl) (by kernel_rfl) (fun _ _ _ h => h) (Or.inl ⟨by rfl, ?_⟩) (by assumption) ?_
        rotate_left 1
        · intro w hSw; (try dsimp only at hSw); go_simp; first | done | with_reducible rfl
        try simp only [Act.put, List.getElem_toArray, List.getElem_cons_succ, List.getElem_cons_zero, List.setIfInBounds_toArray, List.set_cons_zero, List.set_cons_succ]
        refine wpAnyH_take (i := 16) (oi := _) (v := undef) rfl (by kernel_rfl) (by kernel_rfl) (by kernel_rfl) (fun _ _ _ h => h) (Or.inr ⟨by rfl, rfl⟩) (by assumption) ?_
        try simp only [Act.put, List.getElem_toArray, List.getElem_cons_succ, List.getElem_cons_zero, List.setIfInBounds_toArray, List.set_cons_zero, List.set_cons_succ]
        refine wpAnyH_take (i := 17) (oi := _) (v := undef) rfl (by kernel_rfl) (by kernel_rfl) (by kernel_rfl) (fun _ _ _ h => h) (Or.inr ⟨by rfl, rfl⟩) (by assumption) ?_
        try simp only [Act.put, List.getElem_toArray, List.getElem_cons_succ, List.getElem_cons_zero, List.setIfInBounds_toArray, List.set_cons_zero, List.set_cons_succ]
        refine wpAnyH_take (i := 18) (oi := _) (v := undef) rfl (by kernel_rfl) (by kernel_rfl) (by kernel_rfl) (fun _ _ _ h => h) (Or.inr ⟨by rfl, rfl⟩) (by assumption) ?_
        try simp only [Act.put, List.getElem_toArray, List.getElem_cons_succ, List.getElem_cons_zero, List.setIfInBounds_toArray, List.set_cons_zero, List.set_cons_succ]
        refine wpAnyH_take (i := 19) (oi := _) (v := undef) rfl (by kernel_rfl) (by kernel_rfl) (by kernel_rfl) (fun _ _ _ h => h) (Or.inr ⟨by rfl, rfl⟩) (by assumption) ?_
        try simp only [Act.put, List.getElem_toArray, List.getElem_cons_succ, List.getElem_cons_zero, List.setIfInBounds_toArray, List.set_cons_zero, List.set_cons_succ]
        refine wpAnyH_take (i := 20) (oi := _) (v := undef) rfl (by kernel_rfl) (by kernel_rfl) (by kernel_rfl) (fun _ _ _ h => h) (Or.inr ⟨by rfl, rfl⟩) (by assumption) ?_
        try simp only [Act.put, List.getElem_toArray, List.getElem_cons_succ, List.getElem_cons_zero, List.setIfInBounds_toArray, List.set_cons_zero, List.set_cons_succ]
        refine wpAnyH_take (i := 21) (oi := _) (v := undef) rfl (by kernel_rfl) (by kernel_rfl) (by kernel_rfl) (fun _ _ _ h => h) (Or.inr ⟨by rfl, rfl⟩) (by assumption) ?_
        try simp only [Act.put, List.getElem_toArray, List.getElem_cons_succ, List.getElem_cons_zero, List.setIfInBounds_toArray, List.set_cons_zero, List.set_cons_succ]
        refine wpAnyH_take (i := 22) (oi := _) (v := undef) rfl (by kernel_rfl) (by kernel_rfl) (by kernel_rfl) (fun _ _ _ h => h) (Or.inr ⟨by rfl, rfl⟩) (by assumption) ?_
        try simp only [Act.put, List.getElem_toArray, List.getElem_cons_succ, List.getElem_cons_zero, List.setIfInBounds_toArray, List.set_cons_zero, List.set_cons_succ]
        refine wpAnyH_take (i := 23) (oi := _) (v := undef) rfl (by kernel_rfl) (by kernel_rfl) (by kernel_rfl) (fun _ _ _ h => h) (Or.inr ⟨by rfl, rfl⟩) (by assumption) ?_
        try simp only [Act.put, List.getElem_toArray, List.getElem_cons_succ, List.getElem_cons_zero, List.setIfInBounds_toArray, List.set_cons_zero, List.set_cons_succ]
        refine wpAnyH_take (i := 24) (oi := _) (v := ?_) rfl (by kernel_rfl) (by kernel_rfl) (by kernel_rfl) (fun _ _ _ h => h) (Or.inl ⟨by rfl, ?_⟩) (by assumption) ?_
        rotate_left 1
        · intro w hSw; (try dsimp only at hSw); go_simp; first | done | with_reducible rfl
        try simp only [Act.put, List.getElem_toArray, List.getElem_cons_succ, List.getElem_cons_zero, List.setIfInBounds_toArray, List.set_cons_zero, List.set_cons_succ]
        refine wpAnyH_take (i := 25) (oi := _) (v := ?_) rfl (by kernel_rfl) (by kernel_rfl) (by kernel_rfl) (fun _ _ _ h => h) (Or.inl ⟨by rfl, ?_⟩) (by assumption) ?_
        rotate_left 1
        · intro w hSw; (try dsimp only at hSw); go_simp; first | done | with_reducible rfl
        try simp only [Act.put, List.getElem_toArray, List.getElem_cons_succ, List.getElem_cons_zero, List.setIfInBounds_toArray, List.set_cons_zero, List.set_cons_succ]
        refine wpAnyH_done (by kernel_rfl) ?_ _
        refine HKK _ _ ?_
        go_wp2
        go_ret
        have hb := HOUT.out (.inr (by first | rfl | trivial))
        subst hb
        exact ⟨rfl, ⟨_, HV2.out, fun h => by cases h⟩, HFC.out.trans HF2.out⟩
      | true =>
        refine wpAnyH_take (i := 6) (oi := _) (v := ?_) rfl (by kernel_rfl) (by kernel_rfl) (by kernel_rfl) (fun _ _ _ h => h) (Or.inl ⟨by rfl, ?_⟩) (by assumption) ?_
        rotate_left 1
        · intro w hSw; (try dsimp only at hSw); go_simp; first | done | with_reducible rfl
        try simp only [Act.put, List.getElem_toArray, List.getElem_cons_succ, List.getElem_cons_zero, List.setIfInBounds_toArray, List.set_cons_zero, List.set_cons_succ]
        refine wpAnyH_take (i := 7) (oi := _) (v := ?_) rfl (by kernel_rfl) (by kernel_rfl) (by kernel_rfl) (fun _ _ _ h => h) (Or.inl ⟨by rfl, ?_⟩) (by assumption) ?_
        rotate_left 1
        · intro w hSw; (try dsimp only at hSw); go_simp; first | done | with_reducible rfl
        try simp only [Act.put, List.getElem_toArray, List.getElem_cons_succ, List.getElem_cons_zero, List.setIfInBounds_toArray, List.set_cons_zero, List.set_cons_succ]
        refine wpAnyH_take (i := 8) (oi := _) (v := ?_) rfl (by kernel_rfl) (by kernel_rfl) (by kernel_rfl) (fun _ _ _ h => h) (Or.inl ⟨by rfl, ?_⟩) (by assumption) ?_
        rotate_left 1
        · intro w hSw; (try dsimp only at hSw); go_simp; first | done | with_reducible rfl
        try simp only [Act.put, List.getElem_toArray, List.getElem_cons_succ, List.getElem_cons_zero, List.setIfInBounds_toArray, List.set_cons_zero, List.set_cons_succ]
        refine wpAnyH_take (i := 9) (oi := _) (v := ?_) rfl (by kernel_rfl) (by kernel_rfl) (by kernel_rfl) (fun _ _ _ h => h) (Or.inl ⟨by rfl, ?_⟩) (by assumption) ?_
        rotate_left 1
        · intro w hSw; (try dsimp only at hSw); go_simp; first | done | with_reducible rfl
        try simp only [Act.put, List.getElem_toArray, List.getElem_cons_succ, List.getElem_cons_zero, List.setIfInBounds_toArray, List.set_cons_zero, List.set_cons_succ]
        refine wpAnyH_take (i := 10) (oi := _) (v := ?_) rfl (by kernel_rfl) (by kernel_rfl) (by kernel_rfl) (fun _ _ _ h => h) (Or.inl ⟨by rfl, ?_⟩) (by assumption) ?_
        rotate_left 1
        · intro w hSw; (try dsimp only at hSw); go_simp; first | done | with_reducible rfl
        try simp only [Act.put, List.getElem_toArray, List.getElem_cons_succ, List.getElem_cons_zero, List.setIfInBounds_toArray, List.set_cons_zero, List.set_cons_succ]
        refine wpAnyH_take (i := 11) (oi := _) (v := ?_) rfl (by kernel_rfl) (by kernel_rfl) (by kernel_rfl) (fun _ _ _ h => h) (Or.inl ⟨by rfl, ?_⟩) (by assumption) ?_
        rotate_left 1
        · intro w hSw; (try dsimp only at hSw); go_simp; first | done | with_reducible rfl
        try simp only [Act.put, List.getElem_toArray, List.getElem_cons_succ, List.getElem_cons_zero, List.setIfInBounds_toArray, List.set_cons_zero, List.set_cons_succ]
        refine wpAnyH_take (i := 12) (oi := _) (v := ?_) rfl (by kernel_rfl) (by kernel_rfl) (by kernel_rfl) (fun _ _ _ h => h) (Or.inl ⟨by rfl, ?_⟩) (by assumption) ?_
        rotate_left 1
        · intro w hSw; (try dsimp only at hSw); go_simp; first | done | with_reducible rfl
        try simp only [Act.put, List.getElem_toArray, List.getElem_cons_succ, List.getElem_cons_zero, List.setIfInBounds_toArray, List.set_cons_zero, List.set_cons_succ]
        have KEQ := Lib.hid (HEQ.out h0 (by first | rfl | trivial) w2 HV2.out)
        refine wpAnyH_ready (rs := [13]) (by kernel_rfl) (by simp) ?_
        refine AllReadyH.cons (o := _) rfl (fun K hK => ?_) AllReadyH.nil
        go_simp
        go_at_call 61
        refine KEQ.out.mono ?_
        rintro e w3 ⟨rfl, ⟨l', hv3, hl3⟩, hf3⟩
        have HF3 : Hid (Frm (fun k => k = E + 2) wc w3) := Lib.hid (HF2.out.trans hf3)
        have HV3 := Lib.hid hv3
        have HL3 := Lib.hid hl3
        clear hf3 hv3 hl3
        refine hK.out _ _ (HSS.out _ HF3.out) (fun hHeld => ?_)
        clear hK K
        try simp only [Act.put, List.getElem_toArray, List.getElem_cons_succ, List.getElem_cons_zero, List.setIfInBounds_toArray, List.set_cons_zero, List.set_cons_succ]
        clear KEQ HV2 HF2
        cases b13 with
        | false =>
          refine wpAnyH_take (i := 14) (oi := _) (v := ?_) rfl (by kernel_rfl) (by kernel_rfl) (by kernel_rfl) (fun _ _ _ h => h) (Or.inl ⟨by rfl, ?_⟩) (by assumption) ?_
          rotate_left 1
          · intro w hSw; (try dsimp only at hSw); go_simp; first | done | with_reducible rfl
          try simp only [Act.put, List.getElem_toArray, List.getElem_cons_succ, List.getElem_cons_zero, List.setIfInBounds_toArray, List.set_cons_zero, List.set_cons_succ]
          refine wpAnyH_take (i := 15) (oi := _) (v := ?_) rfl (by kernel_rfl) (by kernel_rfl) (by kernel_rfl) (fun _ _ _ h => h) (Or.inl ⟨by rfl, ?_⟩) (by assumption) ?_
          rotate_left 1
          · intro w hSw; (try dsimp only at hSw); go_simp; first | done | with_reducible rfl
          try simp only [Act.put, List.getElem_toArray, List.getElem_cons_succ, List.getElem_cons_zero, List.setIfInBounds_toArray, List.set_cons_zero, List.set_cons_succ]
          refine wpAnyH_take (i := 16) (oi := _) (v := undef) rfl (by kernel_rfl) (by kernel_rfl) (by kernel_rfl) (fun _ _ _ h => h) (Or.inr ⟨by rfl, rfl⟩) (by assumption) ?_
          try simp only [Act.put, List.getElem_toArray, List.getElem_cons_succ, List.getElem_cons_zero, List.setIfInBounds_toArray, List.set_cons_zero, List.set_cons_succ]
          refine wpAnyH_take (i := 17) (oi := _) (v := undef) rfl (by kernel_rfl) (by kernel_rfl) (by kernel_rfl) (fun _ _ _ h => h) (Or.inr ⟨by rfl, rfl⟩) (by assumption) ?_
          try simp only [Act.put, List.getElem_toArray, List.getElem_cons_succ, List.getElem_cons_zero, List.setIfInBounds_toArray, List.set_cons_zero, List.set_cons_succ]
          refine wpAnyH_take (i := 18) (oi := _) (v := undef) rfl (by kernel_rfl) (by kernel_rfl) (by kernel_rfl) (fun _ _ _ h => h) (Or.inr ⟨by rfl, rfl⟩) (by assumption) ?_
          try simp only [Act.put, List.getElem_toArray, List.getElem_cons_succ, List.getElem_cons_zero, List.setIfInBounds_toArray, List.set_cons_zero, List.set_cons_succ]
          refine wpAnyH_take (i := 19) (oi := _) (v := undef) rfl (by kernel_rfl) (by kernel_rfl) (by kernel_rfl) (fun _ _ _ h => h) (Or.inr ⟨by rfl, rfl⟩) (by assumption) ?_
          try simp only [Act.put, List.getElem_toArray, List.getElem_cons_succ, List.getElem_cons_zero, List.setIfInBounds_toArray, List.set_cons_zero, List.set_cons_succ]
          refine wpAnyH_take (i := 20) (oi := _) (v := undef) rfl (by kernel_rfl) (by kernel_rfl) (by kernel_rfl) (fun _ _ _ h => h) (Or.inr ⟨by rfl, rfl⟩) (by assumption) ?_
          try simp only [Act.put, List.getElem_toArray, List.getElem_cons_succ, List.getElem_cons_zero, List.setIfInBounds_toArray, List.set_cons_zero, List.set_cons_succ]
          refine wpAnyH_take (i := 21) (oi := _) (v := undef) rfl (by kernel_rfl) (by kernel_rfl) (by kernel_rfl) (fun _ _ _ h => h) (Or.inr ⟨by rfl, rfl⟩) (by assumption) ?_
          try simp only [Act.put, List.getElem_toArray, List.getElem_cons_succ, List.getElem_cons_zero, List.setIfInBounds_toArray, List.set_cons_zero, List.set_cons_succ]
          refine wpAnyH_take (i := 22) (oi := _) (v := undef) rfl (by kernel_rfl) (by kernel_rfl) (by kernel_rfl) (fun _ _ _ h => h) (Or.inr ⟨by rfl, rfl⟩) (by assumption) ?_
          try simp only [Act.put, List.getElem_toArray, List.getElem_cons_succ, List.getElem_cons_zero, List.setIfInBounds_toArray, List.set_cons_zero, List.set_cons_succ]
          refine wpAnyH_take (i := 23) (oi := _) (v := undef) rfl (by kernel_rfl) (by kernel_rfl) (by kernel_rfl) (fun _ _ _ h => h) (Or.inr ⟨by rfl, rfl⟩) (by assumption) ?_
          try simp only [Act.put, List.getElem_toArray, List.getElem_cons_succ, List.getElem_cons_zero, List.setIfInBounds_toArray, List.set_cons_zero, List.set_cons_succ]
          refine wpAnyH_take (i := 24) (oi := _) (v := ?_) rfl (by kernel_rfl) (by kernel_rfl) (by kernel_rfl) (fun _ _ _ h => h) (Or.inl ⟨by rfl, ?_⟩) (by assumption) ?_
          rotate_left 1
          · intro w hSw; (try dsimp only at hSw); go_simp; first | done | with_reducible rfl
          try simp only [Act.put, List.getElem_toArray, List.getElem_cons_succ, List.getElem_cons_zero, List.setIfInBounds_toArray, List.set_cons_zero, List.set_cons_succ]
          refine wpAnyH_take (i := 25) (oi := _) (v := ?_) rfl (by kernel_rfl) (by kernel_rfl) (by kernel_rfl) (fun _ _ _ h => h) (Or.inl ⟨by rfl, ?_⟩) (by assumption) ?_
          rotate_left 1
          · intro w hSw; (try dsimp only at hSw); go_simp; first | done | with_reducible rfl
          try simp only [Act.put, List.getElem_toArray, List.getElem_cons_succ, List.getElem_cons_zero, List.setIfInBounds_toArray, List.set_cons_zero, List.set_cons_succ]
          refine wpAnyH_done (by kernel_rfl) ?_ _
          refine HKK _ _ ?_
          go_wp2
          go_ret
          have hb := HB13.out h0 (by first | rfl | trivial) (by first | rfl | trivial)
          subst hb
          exact ⟨rfl, ⟨_, HV3.out, fun h => by cases h⟩, HFC.out.trans HF3.out⟩
        | true =>
          have hll := HL3.out (by first | rfl | trivial)
          subst hll
          have KN1 := Lib.hid (inner_any i w3 HV3.out.d1)
          have KN2 := Lib.hid (inner_any j w3 HV3.out.d2)
          have KSM := Lib.hid (HIN.out h0 (by first | rfl | trivial) (by first | rfl | trivial) w3 HV3.out)
          refine wpAnyH_take (i := 14) (oi := _) (v := ?_) rfl (by kernel_rfl) (by kernel_rfl) (by kernel_rfl) (fun _ _ _ h => h) (Or.inl ⟨by rfl, ?_⟩) (by assumption) ?_
          rotate_left 1
          · intro w hSw; (try dsimp only at hSw); go_simp; first | done | with_reducible rfl
          try simp only [Act.put, List.getElem_toArray, List.getElem_cons_succ, List.getElem_cons_zero, List.setIfInBounds_toArray, List.set_cons_zero, List.set_cons_succ]
          refine wpAnyH_take (i := 15) (oi := _) (v := ?_) rfl (by kernel_rfl) (by kernel_rfl) (by kernel_rfl) (fun _ _ _ h => h) (Or.inl ⟨by rfl, ?_⟩) (by assumption) ?_
          rotate_left 1
          · intro w hSw; (try dsimp only at hSw); go_simp; first | done | with_reducible rfl
          try simp only [Act.put, List.getElem_toArray, List.getElem_cons_succ, List.getElem_cons_zero, List.setIfInBounds_toArray, List.set_cons_zero, List.set_cons_succ]
          refine wpAnyH_take (i := 16) (oi := _) (v := ?_) rfl (by kernel_rfl) (by kernel_rfl) (by kernel_rfl) (fun _ _ _ h => h) (Or.inl ⟨by rfl, ?_⟩) (by assumption) ?_
          rotate_left 1
          · intro w hSw; (try dsimp only at hSw); go_simp; first | done | with_reducible rfl
          try simp only [Act.put, List.getElem_toArray, List.getElem_cons_succ, List.getElem_cons_zero, List.setIfInBounds_toArray, List.set_cons_zero, List.set_cons_succ]
          refine wpAnyH_take (i := 17) (oi := _) (v := ?_) rfl (by kernel_rfl) (by kernel_rfl) (by kernel_rfl) (fun _ _ _ h => h) (Or.inl ⟨by rfl, ?_⟩) (by assumption) ?_
          rotate_left 1
          · intro w hSw; (try dsimp only at hSw); go_simp; first | done | with_reducible rfl
          try simp only [Act.put, List.getElem_toArray, List.getElem_cons_succ, List.getElem_cons_zero, List.setIfInBounds_toArray, List.set_cons_zero, List.set_cons_succ]
          refine wpAnyH_take (i := 18) (oi := _) (v := ?_) rfl (by kernel_rfl) (by kernel_rfl) (by kernel_rfl) (fun _ _ _ h => h) (Or.inl ⟨by rfl, ?_⟩) (by assumption) ?_
          rotate_left 1
          · intro w hSw; (try dsimp only at hSw); go_simp; first | done | with_reducible rfl
          try simp only [Act.put, List.getElem_toArray, List.getElem_cons_succ, List.getElem_cons_zero, List.setIfInBounds_toArray, List.set_cons_zero, List.set_cons_succ]
          refine wpAnyH_take (i := 20) (oi := _) (v := ?_) rfl (by kernel_rfl) (by kernel_rfl) (by kernel_rfl) (fun _ _ _ h => h) (Or.inl ⟨by rfl, ?_⟩) (by assumption) ?_
          rotate_left 1
          · intro w hSw; (try dsimp only at hSw); go_simp; first | done | with_reducible rfl
          try simp only [Act.put, List.getElem_toArray, List.getElem_cons_succ, List.getElem_cons_zero, List.setIfInBounds_toArray, List.set_cons_zero, List.set_cons_succ]
          refine wpAnyH_take (i := 21) (oi := _) (v := ?_) rfl (by kernel_rfl) (by kernel_rfl) (by kernel_rfl) (fun _ _ _ h => h) (Or.inl ⟨by rfl, ?_⟩) (by assumption) ?_
          rotate_left 1
          · intro w hSw; (try dsimp only at hSw); go_simp; first | done | with_reducible rfl
          try simp only [Act.put, List.getElem_toArray, List.getElem_cons_succ, List.getElem_cons_zero, List.setIfInBounds_toArray, List.set_cons_zero, List.set_cons_succ]
          refine wpAnyH_ready (rs := [19]) (by kernel_rfl) (by simp) ?_
          refine AllReadyH.cons (o := _) rfl (fun K hK => ?_) AllReadyH.nil
          go_simp
          go_at_call 44
          refine KN1.out.mono ?_
          rintro e w4 ⟨rfl, hw4⟩
          rw [hw4]
          clear hw4 w4
          refine hK.out _ _ (HSS.out _ HF3.out) (fun hHeld => ?_)
          clear hK K
          try simp only [Act.put, List.getElem_toArray, List.getElem_cons_succ, List.getElem_cons_zero, List.setIfInBounds_toArray, List.set_cons_zero, List.set_cons_succ]
          refine wpAnyH_ready (rs := [22]) (by kernel_rfl) (by simp) ?_
          refine AllReadyH.cons (o := _) rfl (fun K hK => ?_) AllReadyH.nil
          go_simp
          go_at_call 44
          refine KN2.out.mono ?_
          rintro e w4 ⟨rfl, hw4⟩
          rw [hw4]
          clear hw4 w4
          refine hK.out _ _ (HSS.out _ HF3.out) (fun hHeld => ?_)
          clear hK K
          try simp only [Act.put, List.getElem_toArray, List.getElem_cons_succ, List.getElem_cons_zero, List.setIfInBounds_toArray, List.set_cons_zero, List.set_cons_succ]
          refine wpAnyH_ready (rs := [23]) (by kernel_rfl) (by simp) ?_
          refine AllReadyH.cons (o := _) rfl (fun K hK => ?_) AllReadyH.nil
          go_simp
          go_at_call 59
          refine KSM.out.mono ?_
          rintro e w4 ⟨rfl, ⟨l', hv4, hl4⟩, hf4⟩
          have HF4 : Hid (Frm (fun k => k = E + 2) wc w4) := Lib.hid (HF3.out.trans hf4)
          have HV4 := Lib.hid hv4
          have HL4 := Lib.hid hl4
          clear hf4 hv4 hl4
          refine hK.out _ _ (HSS.out _ HF4.out) (fun hHeld => ?_)
          clear hK K
          try simp only [Act.put, List.getElem_toArray, List.getElem_cons_succ, List.getElem_cons_zero, List.setIfInBounds_toArray, List.set_cons_zero, List.set_cons_succ]
          refine wpAnyH_take (i := 24) (oi := _) (v := ?_) rfl (by kernel_rfl) (by kernel_rfl) (by kernel_rfl) (fun _ _ _ h => h) (Or.inl ⟨by rfl, ?_⟩) (by assumption) ?_
          rotate_left 1
          · intro w hSw; (try dsimp only at hSw); go_simp; first | done | with_reducible rfl
          try simp only [Act.put, List.getElem_toArray, List.getElem_cons_succ, List.getElem_cons_zero, List.setIfInBounds_toArray, List.set_cons_zero, List.set_cons_succ]
          refine wpAnyH_take (i := 25) (oi := _) (v := ?_) rfl (by kernel_rfl) (by kernel_rfl) (by kernel_rfl) (fun _ _ _ h => h) (Or.inl ⟨by rfl, ?_⟩) (by assumption) ?_
          rotate_left 1
          · intro w hSw; (try dsimp only at hSw); go_simp; first | done | with_reducible rfl
          try simp only [Act.put, List.getElem_toArray, List.getElem_cons_succ, List.getElem_cons_zero, List.setIfInBounds_toArray, List.set_cons_zero, List.set_cons_succ]
          refine wpAnyH_done (by kernel_rfl) ?_ _
          refine HKK _ _ ?_
          go_wp2
          go_ret
          exact ⟨rfl, ⟨_, HV4.out, HL4.out⟩, HFC.out.trans HF4.out⟩
    · have d0 : decide ((0 : Int) ≤ lw) = false := decide_eq_false (by have := HLW.out; omega)
      refine wpAnyH_take (i := 1) (oi := _) (v := ?_) rfl (by kernel_rfl) (by kernel_rfl) (by kernel_rfl) (fun _ _ _ h => h) (Or.inl ⟨by rfl, ?_⟩) (by assumption) ?_
      rotate_left 1
      · intro w hSw; (try dsimp only at hSw); go_simp; first | done | with_reducible rfl
      try simp only [Act.put, List.getElem_toArray, List.getElem_cons_succ, List.getElem_cons_zero, List.setIfInBounds_toArray, List.set_cons_zero, List.set_cons_succ]
      refine wpAnyH_take (i := 2) (oi := _) (v := ?_) rfl (by kernel_rfl) (by kernel_rfl) (by kernel_rfl) (fun _ _ _ h => h) (Or.inl ⟨by rfl, ?_⟩) (by assumption) ?_
      rotate_left 1
      · intro w hSw; (try dsimp only at hSw); go_simp; first | done | with_reducible rfl
      try simp only [Act.put, List.getElem_toArray, List.getElem_cons_succ, List.getElem_cons_zero, List.setIfInBounds_toArray, List.set_cons_zero, List.set_cons_succ]
      refine wpAnyH_take (i := 3) (oi := _) (v := undef) rfl (by kernel_rfl) (by kernel_rfl) (by kernel_rfl) (fun _ _ _ h => h) (Or.inr ⟨by rfl, rfl⟩) (by assumption) ?_
      try simp only [Act.put, List.getElem_toArray, List.getElem_cons_succ, List.getElem_cons_zero, List.setIfInBounds_toArray, List.set_cons_zero, List.set_cons_succ]
      refine wpAnyH_take (i := 4) (oi := _) (v := undef) rfl (by kernel_rfl) (by kernel_rfl) (by kernel_rfl) (fun _ _ _ h => h) (Or.inr ⟨by rfl, rfl⟩) (by assumption) ?_
      try simp only [Act.put, List.getElem_toArray, List.getElem_cons_succ, List.getElem_cons_zero, List.setIfInBounds_toArray, List.set_cons_zero, List.set_cons_succ]
      refine wpAnyH_take (i := 5) (oi := _) (v := undef) rfl (by kernel_rfl) (by kernel_rfl) (by kernel_rfl) (fun _ _ _ h => h) (Or.inr ⟨by rfl, rfl⟩) (by assumption) ?_
      try simp only [Act.put, List.getElem_toArray, List.getElem_cons_succ, List.getElem_cons_zero, List.setIfInBounds_toArray, List.set_cons_zero, List.set_cons_succ]
      refine wpAnyH_take (i := 6) (oi := _) (v := ?_) rfl (by kernel_rfl) (by kernel_rfl) (by kernel_rfl) (fun _ _ _ h => h) (Or.inl ⟨by rfl, ?_⟩) (by assumption) ?_
      rotate_left 1
      · intro w hSw; (try dsimp only at hSw); go_simp; first | done | with_reducible rfl
      try simp only [Act.put, List.getElem_toArray, List.getElem_cons_succ, List.getElem_cons_zero, List.setIfInBounds_toArray, List.set_cons_zero, List.set_cons_succ]
      refine wpAnyH_take (i := 7) (oi := _) (v := ?_) rfl (by kernel_rfl) (by kernel_rfl) (by kernel_rfl) (fun _ _ _ h => h) (Or.inl ⟨by rfl, ?_⟩) (by assumption) ?_
      rotate_left 1
      · intro w hSw; (try dsimp only at hSw); go_simp; first | done | with_reducible rfl
      try simp only [Act.put, List.getElem_toArray, List.getElem_cons_succ, List.getElem_cons_zero, List.setIfInBounds_toArray, List.set_cons_zero, List.set_cons_succ]
      refine wpAnyH_take (i := 8) (oi := _) (v := undef) rfl (by kernel_rfl) (by kernel_rfl) (by kernel_rfl) (fun _ _ _ h => h) (Or.inr ⟨by rfl, rfl⟩) (by assumption) ?_
      try simp only [Act.put, List.getElem_toArray, List.getElem_cons_succ, List.getElem_cons_zero, List.setIfInBounds_toArray, List.set_cons_zero, List.set_cons_succ]
      refine wpAnyH_take (i := 9) (oi := _) (v := undef) rfl (by kernel_rfl) (by kernel_rfl) (by kernel_rfl) (fun _ _ _ h => h) (Or.inr ⟨by rfl, rfl⟩) (by assumption) ?_
      try simp only [Act.put, List.getElem_toArray, List.getElem_cons_succ, List.getElem_cons_zero, List.setIfInBounds_toArray, List.set_cons_zero, List.set_cons_succ]
      refine wpAnyH_take (i := 10) (oi := _) (v := undef) rfl (by kernel_rfl) (by kernel_rfl) (by kernel_rfl) (fun _ _ _ h => h) (Or.inr ⟨by rfl, rfl⟩) (by assumption) ?_
      try simp only [Act.put, List.getElem_toArray, List.getElem_cons_succ, List.getElem_cons_zero, List.setIfInBounds_toArray, List.set_cons_zero, List.set_cons_succ]
      refine wpAnyH_take (i := 11) (oi := _) (v := undef) rfl (by kernel_rfl) (by kernel_rfl) (by kernel_rfl) (fun _ _ _ h => h) (Or.inr ⟨by rfl, rfl⟩) (by assumption) ?_
      try simp only [Act.put, List.getElem_toArray, List.getElem_cons_succ, List.getElem_cons_zero, List.setIfInBounds_toArray, List.set_cons_zero, List.set_cons_succ]
      refine wpAnyH_take (i := 12) (oi := _) (v := undef) rfl (by kernel_rfl) (by kernel_rfl) (by kernel_rfl) (fun _ _ _ h => h) (Or.inr ⟨by rfl, rfl⟩) (by assumption) ?_
      try simp only [Act.put, List.getElem_toArray, List.getElem_cons_succ, List.getElem_cons_zero, List.setIfInBounds_toArray, List.set_cons_zero, List.set_cons_succ]
      refine wpAnyH_take (i := 13) (oi := _) (v := undef) rfl (by kernel_rfl) (by kernel_rfl) (by kernel_rfl) (fun _ _ _ h => h) (Or.inr ⟨by rfl, rfl⟩) (by assumption) ?_
      try simp only [Act.put, List.getElem_toArray, List.getElem_cons_succ, List.getElem_cons_zero, List.setIfInBounds_toArray, List.set_cons_zero, List.set_cons_succ]
      refine wpAnyH_take (i := 14) (oi := _) (v := ?_) rfl (by kernel_rfl) (by kernel_rfl) (by kernel_rfl) (fun _ _ _ h => h) (Or.inl ⟨by rfl, ?_⟩) (by assumption) ?_
      rotate_left 1
      · intro w hSw; (try dsimp only at hSw); go_simp; first | done | with_reducible rfl
      try simp only [Act.put, List.getElem_toArray, List.getElem_cons_succ, List.getElem_cons_zero, List.setIfInBounds_toArray, List.set_cons_zero, List.set_cons_succ]
      refine wpAnyH_take (i := 15) (oi := _) (v := ?_) rfl (by kernel_rfl) (by kernel_rfl) (by kernel_rfl) (fun _ _ _ h => h) (Or.inl ⟨by rfl, ?_⟩) (by assumption) ?_
      rotate_left 1
      · intro w hSw; (try dsimp only at hSw); go_simp; first | done | with_reducible rfl
      try simp only [Act.put, List.getElem_toArray, List.getElem_cons_succ, List.getElem_cons_zero, List.setIfInBounds_toArray, List.set_cons_zero, List.set_cons_succ]
      refine wpAnyH_take (i := 16) (oi := _) (v := undef) rfl (by kernel_rfl) (by kernel_rfl) (by kernel_rfl) (fun _ _ _ h => h) (Or.inr ⟨by rfl, rfl⟩) (by assumption) ?_
      try simp only [Act.put, List.getElem_toArray, List.getElem_cons_succ, List.getElem_cons_zero, List.setIfInBounds_toArray, List.set_cons_zero, List.set_cons_succ]
      refine wpAnyH_take (i := 17) (oi := _) (v := undef) rfl (by kernel_rfl) (by kernel_rfl) (by kernel_rfl) (fun _ _ _ h => h) (Or.inr ⟨by rfl, rfl⟩) (by assumption) ?_
      try simp only [Act.put, List.getElem_toArray, List.getElem_cons_succ, List.getElem_cons_zero, List.setIfInBounds_toArray, List.set_cons_zero, List.set_cons_succ]
      refine wpAnyH_take (i := 18) (oi := _) (v := undef) rfl (by kernel_rfl) (by kernel_rfl) (by kernel_rfl) (fun _ _ _ h => h) (Or.inr ⟨by rfl, rfl⟩) (by assumption) ?_
      try simp only [Act.put, List.getElem_toArray, List.getElem_cons_succ, List.getElem_cons_zero, List.setIfInBounds_toArray, List.set_cons_zero, List.set_cons_succ]
      refine wpAnyH_take (i := 19) (oi := _) (v := undef) rfl (by kernel_rfl) (by kernel_rfl) (by kernel_rfl) (fun _ _ _ h => h) (Or.inr ⟨by rfl, rfl⟩) (by assumption) ?_
      try simp only [Act.put, List.getElem_toArray, List.getElem_cons_succ, List.getElem_cons_zero, List.setIfInBounds_toArray, List.set_cons_zero, List.set_cons_succ]
      refine wpAnyH_take (i := 20) (oi := _) (v := undef) rfl (by kernel_rfl) (by kernel_rfl) (by kernel_rfl) (fun _ _ _ h => h) (Or.inr ⟨by rfl, rfl⟩) (by assumption) ?_
      try simp only [Act.put, List.getElem_toArray, List.getElem_cons_succ, List.getElem_cons_zero, List.setIfInBounds_toArray, List.set_cons_zero, List.set_cons_succ]
      refine wpAnyH_take (i := 21) (oi := _) (v := undef) rfl (by kernel_rfl) (by kernel_rfl) (by kernel_rfl) (fun _ _ _ h => h) (Or.inr ⟨by rfl, rfl⟩) (by assumption) ?_
      try simp only [Act.put, List.getElem_toArray, List.getElem_cons_succ, List.getElem_cons_zero, List.setIfInBounds_toArray, List.set_cons_zero, List.set_cons_succ]
      refine wpAnyH_take (i := 22) (oi := _) (v := undef) rfl (by kernel_rfl) (by kernel_rfl) (by kernel_rfl) (fun _ _ _ h => h) (Or.inr ⟨by rfl, rfl⟩) (by assumption) ?_
      try simp only [Act.put, List.getElem_toArray, List.getElem_cons_succ, List.getElem_cons_zero, List.setIfInBounds_toArray, List.set_cons_zero, List.set_cons_succ]
      refine wpAnyH_take (i := 23) (oi := _) (v := undef) rfl (by kernel_rfl) (by kernel_rfl) (by kernel_rfl) (fun _ _ _ h => h) (Or.inr ⟨by rfl, rfl⟩) (by assumption) ?_
      try simp only [Act.put, List.getElem_toArray, List.getElem_cons_succ, List.getElem_cons_zero, List.setIfInBounds_toArray, List.set_cons_zero, List.set_cons_succ]
      refine wpAnyH_take (i := 24) (oi := _) (v := ?_) rfl (by kernel_rfl) (by kernel_rfl) (by kernel_rfl) (fun _ _ _ h => h) (Or.inl ⟨by rfl, ?_⟩) (by assumption) ?_
      rotate_left 1
      · intro w hSw; (try dsimp only at hSw); go_simp; first | done | with_reducible rfl
      try simp only [Act.put, List.getElem_toArray, List.getElem_cons_succ, List.getElem_cons_zero, List.setIfInBounds_toArray, List.set_cons_zero, List.set_cons_succ]
      refine wpAnyH_take (i := 25) (oi := _) (v := ?_) rfl (by kernel_rfl) (by kernel_rfl) (by kernel_rfl) (fun _ _ _ h => h) (Or.inl ⟨by rfl, ?_⟩) (by assumption) ?_
      rotate_left 1
      · intro w hSw; (try dsimp only at hSw); go_simp; first | done | with_reducible rfl
      try simp only [Act.put, List.getElem_toArray, List.getElem_cons_succ, List.getElem_cons_zero, List.setIfInBounds_toArray, List.set_cons_zero, List.set_cons_succ]
      refine wpAnyH_done (by kernel_rfl) ?_ _
      refine HKK _ _ ?_
      go_wp2
      go_ret
      have hb := HOUT.out (.inl (by omega))
      subst hb
      exact ⟨rfl, ⟨_, HV0.out, fun h => by cases h⟩, HFC.out.trans HF0.out⟩
end
end Go.Proofs.Ytodlcfhkiilpgaa
