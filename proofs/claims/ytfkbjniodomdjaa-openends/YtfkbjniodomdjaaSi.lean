/- What bounds a look, of the usual kind. -/
import Derived.Test.YtfkbjniodomdjaaEh
namespace Go.Proofs.Ytfkbjniodomdjaa
open Go.RowKit Go.Lib
attribute [local go_sem] Oper.semAt_some

/-- a row of texts, new -/
theorem rdT_new (W : World) (l : List ByteArray) (t : TypeId) : RdT (W.alloc (.cells (l.map Value.string).toArray t)) (some ⟨W.heap.size, 0, none⟩) l := by
  refine .inr ⟨W.heap.size, 0, rfl, by rw [World.size_alloc]; omega, fun i x hx => ?_⟩
  rw [cell_of_row _ _ _ _ _ _ (heap_alloc_new W _)]
  simp [hx]
/-- whether a node is an element of a space with one of some names -/
def spN (ns : List Nd) (n k : Int) (zs : List ByteArray) : Bool := atN ns n (fun x => x.kind == 2 && x.space == k && amg zs x.name) false
section
variable {base D : Nat} {v : Value} {qk : Bool} {ns : List Nd}
set_option maxHeartbeats 600000 in
theorem isOf_any (n k : Int) (zs : List ByteArray) (A : Option Addr) (cap : Nat) (W : World) (h : DocM base D v qk ns W) (hz : RdT W A zs) (hl : zs.length ≤ 1000000) :
    Calls Try.prog 95 #[.pointer (some ⟨D, 0, none⟩), .int .i64 n, .int .i64 k, .slice A zs.length cap] W fun e W' => e = .returned (.bool (spN ns n k zs)) ∧ W' = W := by
  have KK := Lib.hid (kind_any n W h)
  unfold spN
  cases hn : inN ns n with
  | false =>
    rw [atN_none hn] at KK ⊢
    clear h hn hz
    go_enter Try.func95, Try.ntmps95
    go_wp2_with fail
    refine KK.out.mono ?_
    rintro e w1 ⟨rfl, rfl⟩
    go_wp2
    go_ret
    exact ⟨rfl, rfl⟩
  | true =>
    obtain ⟨i, x, rfl, hx⟩ := inN_at hn
    rw [atN_some hx] at KK ⊢
    obtain ⟨An, capn, rfl, hle, hmx, hg⟩ := h.sl
    have hi := (List.getElem?_eq_some_iff.1 hx).1
    obtain ⟨g, rfl, _, _⟩ := hg (by omega)
    have c0 := h.cells.1
    have k1 : W.cell? ⟨g, i * 10 + 1, none⟩ = some (.int .i64 x.space) := h.cell hx (show 1 < 10 by omega)
    have k2 : W.cell? ⟨g, i * 10 + 2, none⟩ = some (.string x.name) := h.cell hx (show 2 < 10 by omega)
    have KC := Lib.hid (cont_any zs x.name A cap W hz hl)
    unfold maxLen at hmx
    clear h hx hg hn hz
    cases hk : (x.kind == 2) with
    | false =>
      rw [Bool.false_and, Bool.false_and]
      go_enter Try.func95, Try.ntmps95
      go_wp2_with fail
      refine KK.out.mono ?_
      rintro e w1 ⟨rfl, rfl⟩
      go_wp2
      go_ret
      exact ⟨rfl, rfl⟩
    | true =>
      cases hs : (x.space == k) with
      | false =>
        rw [Bool.true_and, Bool.false_and]
        go_enter Try.func95, Try.ntmps95
        go_wp2_with fail
        refine KK.out.mono ?_
        rintro e w1 ⟨rfl, rfl⟩
        go_wp2
        go_ret
        exact ⟨rfl, rfl⟩
      | true =>
        rw [Bool.true_and, Bool.true_and]
        obtain ⟨b, hb⟩ : ∃ b, amg zs x.name = b := ⟨_, rfl⟩
        rw [hb] at KC ⊢
        clear hb
        go_enter Try.func95, Try.ntmps95
        go_wp2_with fail
        refine KK.out.mono ?_
        rintro e w1 ⟨rfl, rfl⟩
        go_wp2_with fail
        refine KC.out.mono ?_
        rintro e w1 ⟨rfl, rfl⟩
        go_wp2
        go_ret
        exact ⟨rfl, rfl⟩
def tpS : List ByteArray := [⟨#[109, 105]⟩, ⟨#[109, 111]⟩, ⟨#[109, 110]⟩, ⟨#[109, 115]⟩, ⟨#[109, 116, 101, 120, 116]⟩]
def anS : List ByteArray := [⟨#[97, 110, 110, 111, 116, 97, 116, 105, 111, 110, 45, 120, 109, 108]⟩]
def foS : List ByteArray := [⟨#[102, 111, 114, 101, 105, 103, 110, 79, 98, 106, 101, 99, 116]⟩, ⟨#[100, 101, 115, 99]⟩, ⟨#[116, 105, 116, 108, 101]⟩]
def usS : List ByteArray := [⟨#[97, 112, 112, 108, 101, 116]⟩, ⟨#[99, 97, 112, 116, 105, 111, 110]⟩, ⟨#[104, 116, 109, 108]⟩, ⟨#[116, 97, 98, 108, 101]⟩, ⟨#[116, 100]⟩, ⟨#[116, 104]⟩, ⟨#[109, 97, 114, 113, 117, 101, 101]⟩, ⟨#[111, 98, 106, 101, 99, 116]⟩, ⟨#[116, 101, 109, 112, 108, 97, 116, 101]⟩]
theorem tp_any (n : Int) (W : World) (h : DocM base D v qk ns W) : Calls Try.prog 93 #[.pointer (some ⟨D, 0, none⟩), .int .i64 n] W fun e W' => e = .returned (.bool (spN ns n 2 tpS)) ∧ Below W.heap.size W W' := by
  have hb1 : Below W.heap.size W (W.alloc (.cells (tpS.map Value.string).toArray 9)) := (Below.refl _ W).alloc (Nat.le_refl _) _
  have K := Lib.hid (isOf_any n 2 tpS (some ⟨W.heap.size, 0, none⟩) 5 _ (h.below hb1) (rdT_new W tpS 9) (by decide))
  have HB := Lib.hid hb1
  obtain ⟨b, hb⟩ : ∃ b, spN ns n 2 tpS = b := ⟨_, rfl⟩
  rw [hb] at K ⊢
  clear h hb1 hb
  simp only [tpS, List.map_cons, List.map_nil, List.length_cons, List.length_nil, Nat.reduceAdd] at K HB
  go_enter Try.func93, Try.ntmps93
  go_wp2_with fail
  refine K.out.mono ?_
  rintro e w1 ⟨rfl, rfl⟩
  go_wp2
  go_ret
  exact ⟨rfl, HB.out⟩
theorem fo_any (n : Int) (W : World) (h : DocM base D v qk ns W) : Calls Try.prog 94 #[.pointer (some ⟨D, 0, none⟩), .int .i64 n] W fun e W' => e = .returned (.bool (spN ns n 2 anS || spN ns n 1 foS)) ∧ Below W.heap.size W W' := by
  obtain ⟨W1, hW1⟩ : ∃ W1, W.alloc (.cells (anS.map Value.string).toArray 9) = W1 := ⟨_, rfl⟩
  have hb1 : Below W.heap.size W W1 := by rw [← hW1]; exact (Below.refl _ W).alloc (Nat.le_refl _) _
  have hb2 : Below W1.heap.size W1 (W1.alloc (.cells (foS.map Value.string).toArray 9)) := (Below.refl _ W1).alloc (Nat.le_refl _) _
  have hr1 : RdT W1 (some ⟨W.heap.size, 0, none⟩) anS := by rw [← hW1]; exact rdT_new W anS 9
  have K1 := Lib.hid (isOf_any n 2 anS (some ⟨W.heap.size, 0, none⟩) 1 _ (h.below hb1) hr1 (by decide))
  have hs1 : W1.heap.size = W.heap.size + 1 := by rw [← hW1, World.size_alloc]
  have hr2 := rdT_new W1 foS 9
  rw [hs1] at hr2
  have K2 := Lib.hid (isOf_any n 1 foS (some ⟨W.heap.size + 1, 0, none⟩) 3 _ ((h.below hb1).below hb2) hr2 (by decide))
  have HB1 := Lib.hid hb1
  have HB2 := Lib.hid hb2
  obtain ⟨b2, hb2'⟩ : ∃ b, spN ns n 1 foS = b := ⟨_, rfl⟩
  rw [hb2'] at K2 ⊢
  clear h hb1 hb2 hb2' hr1 hr2 hs1
  simp only [foS, anS, List.map_cons, List.map_nil, List.length_cons, List.length_nil, Nat.reduceAdd] at K1 K2 HB1 HB2 hW1
  cases hq : spN ns n 2 anS with
  | true =>
    simp only [anS] at hq
    rw [hq] at K1
    clear hq
    subst hW1
    go_enter Try.func94, Try.ntmps94
    go_wp2_with fail
    refine K1.out.mono ?_
    rintro e w1 ⟨rfl, rfl⟩
    go_wp2
    go_ret
    exact ⟨rfl, HB1.out⟩
  | false =>
    simp only [anS] at hq
    rw [hq] at K1
    clear hq
    subst hW1
    go_enter Try.func94, Try.ntmps94
    go_wp2_with fail
    refine K1.out.mono ?_
    rintro e w1 ⟨rfl, rfl⟩
    go_wp2_with fail
    refine K2.out.mono ?_
    rintro e w2 ⟨rfl, rfl⟩
    go_wp2
    go_ret
    exact ⟨rfl, HB1.out.trans (HB2.out.mono HB1.out.size)⟩
/-- whether a node bounds a look of the usual kind -/
def bUs (ns : List Nd) (n : Int) : Bool := isN ns n usS || (spN ns n 2 tpS || (spN ns n 2 anS || spN ns n 1 foS))
theorem bU_any (n : Int) (W : World) (h : DocM base D v qk ns W) : Calls Try.prog 92 #[.pointer (some ⟨D, 0, none⟩), .int .i64 n] W fun e W' => e = .returned (.bool (bUs ns n)) ∧ Below W.heap.size W W' := by
  obtain ⟨W1, hW1⟩ : ∃ W1, W.alloc (.cells (usS.map Value.string).toArray 9) = W1 := ⟨_, rfl⟩
  have hb1 : Below W.heap.size W W1 := by rw [← hW1]; exact (Below.refl _ W).alloc (Nat.le_refl _) _
  have hr1 : RdT W1 (some ⟨W.heap.size, 0, none⟩) usS := by rw [← hW1]; exact rdT_new W usS 9
  have K1 := Lib.hid (is_any n usS (some ⟨W.heap.size, 0, none⟩) 9 _ (h.below hb1) hr1 (by decide))
  have K2 := Lib.hid (tp_any n W1 (h.below hb1))
  have K3 := Lib.hid (fun W2 (hb : Below W1.heap.size W1 W2) => fo_any n W2 ((h.below hb1).below hb))
  have HB1 := Lib.hid hb1
  unfold bUs
  obtain ⟨b3, hb3⟩ : ∃ b, (spN ns n 2 anS || spN ns n 1 foS) = b := ⟨_, rfl⟩
  rw [hb3] at K3 ⊢
  obtain ⟨b2, hb2⟩ : ∃ b, spN ns n 2 tpS = b := ⟨_, rfl⟩
  rw [hb2] at K2 ⊢
  obtain ⟨b1, hb1'⟩ : ∃ b, isN ns n usS = b := ⟨_, rfl⟩
  rw [hb1'] at K1 ⊢
  clear h hb1 hb3 hb2 hb1' hr1
  simp only [usS, List.map_cons, List.map_nil, List.length_cons, List.length_nil, Nat.reduceAdd] at K1 hW1
  subst hW1
  cases b1 with
  | true =>
    go_enter Try.func92, Try.ntmps92
    go_wp2_with fail
    refine K1.out.mono ?_
    rintro e w1 ⟨rfl, rfl⟩
    go_wp2
    go_ret
    exact ⟨rfl, HB1.out⟩
  | false =>
    cases b2 with
    | true =>
      go_enter Try.func92, Try.ntmps92
      go_wp2_with fail
      refine K1.out.mono ?_
      rintro e w1 ⟨rfl, rfl⟩
      go_wp2_with fail
      refine K2.out.mono ?_
      rintro e w2 ⟨rfl, hb2⟩
      go_wp2
      go_ret
      exact ⟨rfl, HB1.out.trans (hb2.mono HB1.out.size)⟩
    | false =>
      go_enter Try.func92, Try.ntmps92
      go_wp2_with fail
      refine K1.out.mono ?_
      rintro e w1 ⟨rfl, rfl⟩
      go_wp2_with fail
      refine K2.out.mono ?_
      rintro e w2 ⟨rfl, hb2⟩
      have K3' := Lib.hid (K3.out w2 hb2)
      have HB2 := Lib.hid hb2
      clear hb2 K3 K2 K1
      go_wp2_with fail
      refine K3'.out.mono ?_
      rintro e w3 ⟨rfl, hb3⟩
      go_wp2
      go_ret
      exact ⟨rfl, (HB1.out.trans (HB2.out.mono HB1.out.size)).trans (hb3.mono (Nat.le_trans HB1.out.size HB2.out.size))⟩
theorem bnds_usual (n : Int) (W : World) (h : DocM base D v qk ns W) : Calls Try.prog 90 #[.pointer (some ⟨D, 0, none⟩), .int .i64 0, .int .i64 n] W fun e W' => e = .returned (.bool (bUs ns n)) ∧ Below W.heap.size W W' := by
  have K := Lib.hid (bU_any n W h)
  clear h
  go_enter Try.func90, Try.ntmps90
  go_wp2_with fail
  refine K.out.mono ?_
  rintro e w1 ⟨rfl, hb⟩
  go_wp2
  go_ret
  exact ⟨rfl, hb⟩
end
end Go.Proofs.Ytfkbjniodomdjaa
