/- The law TokenIs, walked. -/
import Derived.Test.YtcookhjgajfalaaKv
import Derived.Test.YtcookhjgajfalaaKi
namespace Go.Proofs.Ytcookhjgajfalaa
open Go.RowKit Go.Lib
attribute [local go_sem] Oper.semAt_some

def amg (zs : List ByteArray) (n : ByteArray) : Bool := zs.any fun z => sm z n
theorem cont_any (zs : List ByteArray) (n : ByteArray) (A : Option Addr) (cap : Nat) (w : World) (h : RdT w A zs) (hl : zs.length ≤ 1000000) :
    Calls Try.prog 35 #[.slice A zs.length cap, .string n] w fun e w' => e = .returned (.bool (amg zs n)) ∧ w = w' := by
  rcases h with rfl | ⟨b, off, rfl, hb, hc⟩
  · refine (Any.slices_Contains_string_empty Try.kcontains A cap n w).mono ?_
    rintro e w' ⟨rfl, rfl⟩
    exact ⟨rfl, rfl⟩
  · refine (Any.slices_Contains_string Try.kcontains b off zs.length cap zs n w (Nat.le_refl _) (by omega) (fun j hj => ?_)).mono ?_
    · rw [hc j _ (List.getElem?_eq_getElem hj), List.getD, List.getElem?_eq_getElem hj]
      rfl
    · rintro e w' ⟨rfl, rfl⟩
      refine ⟨?_, rfl⟩
      congr 2
      rw [Bool.eq_iff_iff, List.take_of_length_le (Nat.le_refl _), Lib.containsS_iff]
      unfold amg
      rw [List.any_eq_true]
      constructor
      · intro h; exact ⟨n, h, sm_self n⟩
      · rintro ⟨z, hz, hz2⟩
        rw [← sm_iff.1 hz2]
        exact hz
set_option maxHeartbeats 1000000 in
theorem is_any (k kind : Int) (n : ByteArray) (a b c d e f g i : Value) (zs : List ByteArray) (A : Option Addr) (cap : Nat) (w : World) (h : RdT w A zs) (hl : zs.length ≤ 1000000) :
    Calls Try.prog 23 #[.agg #[.int .i64 k, .string n, a, b, c, d, e, f, g, i], .int .i64 kind, .slice A zs.length cap] w fun e w' => e = .returned (.bool (amg zs n && decide (k = kind))) ∧ Below w.heap.size w w' := by
  have K1 := Lib.hid (cont_any zs n A cap (w.alloc (.cells #[.int .i64 k, .string n, a, b, c, d, e, f, g, i] 41)) (h.below ((Below.refl _ _).alloc (Nat.le_refl _) _)) hl)
  clear h
  obtain ⟨m, hm⟩ : ∃ m, amg zs n = m := ⟨_, rfl⟩
  rw [hm] at K1 ⊢
  clear hm
  by_cases hk : k = kind
  · have hd : (k == kind) = true := by simp [hk]
    rw [decide_eq_true hk, Bool.and_true]
    have HK := Lib.hid hk
    clear hk
    go_enter Try.func23, Try.ntmps23
    go_wp2_with fail
    refine K1.out.mono ?_
    rintro e w' ⟨rfl, rfl⟩
    go_wp2
    go_ret
    exact ⟨rfl, (Below.refl _ w).alloc (Nat.le_refl _) _⟩
  · have hd : (k == kind) = false := by simp [hk]
    rw [decide_eq_false hk, Bool.and_false]
    clear hk
    go_enter Try.func23, Try.ntmps23
    go_wp2
    go_ret
    exact ⟨rfl, (Below.refl _ w).alloc (Nat.le_refl _) _⟩
theorem amg_succ {zs : List ByteArray} {n x : ByteArray} {k : Nat} (hx : zs[k]? = some x) : amg (zs.take (k + 1)) n = (amg (zs.take k) n || sm x n) := by
  unfold amg
  rw [take_snoc hx, List.any_append]
  simp

set_option maxHeartbeats 1000000 in
set_option maxRecDepth 100000 in
theorem tokenIs_law (k kind : Int) (n : ByteArray) (a b c d e f g i : Value) (zs : List ByteArray) (A : Option Addr) (cap : Nat) (w : World) (h : RdT w A zs) (hmx : zs.length ≤ maxLen) :
    Calls Try.prog 7 #[.agg #[.int .i64 k, .string n, a, b, c, d, e, f, g, i], .int .i64 kind, .slice A zs.length cap] w fun e w' => e = .returned (.bool true) ∧ Below w.heap.size w w' := by
  have hbx := (Below.refl w.heap.size w).alloc (Nat.le_refl _) (.cells #[.int .i64 k, .string n, a, b, c, d, e, f, g, i] 41)
  have KH := Lib.hid (head7_any (w.alloc (.cells #[.int .i64 k, .string n, a, b, c, d, e, f, g, i] 41)))
  have H := Lib.hid (h.below hbx)
  have HBX := Lib.hid hbx
  unfold maxLen at hmx
  clear h hbx
  by_cases hl : zs.length ≤ 20
  · have hg : decide (20 < zs.length) = false := decide_eq_false (by omega)
    have hg2 : decide ((20 : Int) < (zs.length : Int)) = false := decide_eq_false (by omega)
    clear hmx
    go_enter Try.func7, Try.ntmps7
    go_wp2_with fail
    refine KH.out.mono ?_
    rintro e1 w1 ⟨rfl, hb1⟩
    have cl : ∀ j u, #[.int .i64 k, .string n, a, b, c, d, e, f, g, i][j]? = some u → w1.cell? ⟨w.heap.size, j, none⟩ = some u := by
      intro j u hu
      rw [hb1.cell (p := ⟨w.heap.size, j, none⟩) (by simp), World.cell?_alloc_new]
      exact hu
    have c0 := cl 0 _ rfl
    have c1 := cl 1 _ rfl
    have c2 := cl 2 _ rfl
    have c3 := cl 3 _ rfl
    have c4 := cl 4 _ rfl
    have c5 := cl 5 _ rfl
    have c6 := cl 6 _ rfl
    have c7 := cl 7 _ rfl
    have c8 := cl 8 _ rfl
    have c9 := cl 9 _ rfl
    have B1 := Lib.hid (HBX.out.trans (hb1.mono HBX.out.size))
    have H1 := Lib.hid (H.out.below hb1)
    clear cl hb1 KH HBX H
    go_wp2
    go_loopw [7, 17] (fun wv iv wr => ∃ j : Nat, j ≤ zs.length ∧ iv = .int .i64 j ∧ wv = .bool (amg (zs.take j) n) ∧ wr = w1) (fun _ iv _ => zs.length - (intOf iv).toNat)
    case atStart => exact ⟨0, Nat.zero_le _, rfl, rfl, rfl⟩
    case round =>
      obtain ⟨j, hj, rfl, rfl, rfl⟩ := hrel
      by_cases hlt : j < zs.length
      · obtain ⟨x, hx⟩ : ∃ x, zs[j]? = some x := ⟨_, List.getElem?_eq_getElem hlt⟩
        have hs := amg_succ (n := n) hx
        obtain ⟨bb, off, rfl, hbl, d0⟩ := H1.out.at_ hx
        obtain ⟨m, hm⟩ : ∃ m, amg (zs.take j) n = m := ⟨_, rfl⟩
        rw [hm] at hs
        rw [hm]
        have HS := Lib.hid hs
        clear hx hs hm
        cases m with
        | true =>
          go_wp2
          go_roundw
          case rel => exact ⟨j + 1, by omega, by go_num, by rw [HS.out]; rfl, trivial⟩
          case measure => simp [intOf]; omega
        | false =>
          go_wp2
          go_roundw
          case rel => exact ⟨j + 1, by omega, by go_num, by rw [HS.out]; rfl, trivial⟩
          case measure => simp [intOf]; omega
      · obtain rfl : j = zs.length := by omega
        have KI := Lib.hid (is_any k kind n a b c d e f g i zs A cap wr H1.out (by omega))
        rw [List.take_of_length_le (Nat.le_refl _)]
        obtain ⟨m, hm⟩ : ∃ m, amg zs n = m := ⟨_, rfl⟩
        rw [hm] at KI
        rw [hm]
        clear hm
        go_wp2_with fail
        refine KI.out.mono ?_
        rintro e2 w2 ⟨rfl, hb2⟩
        have f0 := (hb2.cell (p := ⟨w.heap.size, 0, none⟩) (block_lt c0)).trans c0
        have B2 := Lib.hid (B1.out.trans (hb2.mono B1.out.size))
        clear hb2 KI
        by_cases hk : k = kind
        · have hd : (k == kind) = true := by simp [hk]
          rw [decide_eq_true hk]
          clear hk
          cases m with
          | true =>
            go_wp2
            go_ret
            exact ⟨rfl, B2.out⟩
          | false =>
            go_wp2
            go_ret
            exact ⟨rfl, B2.out⟩
        · have hd : (k == kind) = false := by simp [hk]
          rw [decide_eq_false hk]
          clear hk
          cases m with
          | true =>
            go_wp2
            go_ret
            exact ⟨rfl, B2.out⟩
          | false =>
            go_wp2
            go_ret
            exact ⟨rfl, B2.out⟩
  · have hg : decide (20 < zs.length) = true := decide_eq_true (by omega)
    have hg2 : decide ((20 : Int) < (zs.length : Int)) = true := decide_eq_true (by omega)
    go_enter Try.func7, Try.ntmps7
    go_wp2_with fail
    refine KH.out.mono ?_
    rintro e1 w1 ⟨rfl, hb1⟩
    go_wp2
    go_ret
    exact ⟨rfl, HBX.out.trans (hb1.mono HBX.out.size)⟩

end Go.Proofs.Ytcookhjgajfalaa
