/- slices.Equal of attributes; the method Same of a token. -/
import Derived.Test.YtanbbomdidefjaaKc
namespace Go.Proofs.Ytanbbomdidefjaa
open Go.RowKit Go.Lib
attribute [local go_sem] Oper.semAt_some

theorem ne_at {xs ys : List Atr} {k : Nat} {x y : Atr} (hx : xs[k]? = some x) (hy : ys[k]? = some y) (h : (sm x.1 y.1 && sm x.2 y.2) = false) : decide (xs = ys) = false := by
  refine decide_eq_false fun e => ?_
  rw [e, hy] at hx
  obtain rfl := Option.some.inj hx
  rw [sm_self, sm_self] at h
  cases h
theorem eq_at {x y : Atr} (h : (sm x.1 y.1 && sm x.2 y.2) = true) : x = y := by
  rw [Bool.and_eq_true] at h
  exact Prod.ext (sm_iff.1 h.1) (sm_iff.1 h.2)

set_option maxHeartbeats 1000000 in
theorem eq_any (xs ys : List Atr) (A B : Option Addr) (c d : Nat) (w : World) (h : RdA w A xs) (h2 : RdA w B ys) (hl : xs.length ≤ 1000000) :
    Calls Try.prog 18 #[.slice A xs.length c, .slice B ys.length d] w fun e w' => e = .returned (.bool (decide (xs = ys))) ∧ Below w.heap.size w w' := by
  have H := Lib.hid h
  have H2 := Lib.hid h2
  clear h h2
  by_cases hn : xs.length = ys.length
  · have hne : ∀ (x y : Atr) (w : World), Sem.run Try.prog (binOp .neq 39 (.agg #[.string x.1, .string x.2]) (.agg #[.string y.1, .string y.2])) w = .ok (.bool (!(sm x.1 y.1 && sm x.2 y.2))) w := neqA.1
    have hgd : ∀ (op : BinOp) (a b : Operand) (x y : Atr) (w : World), Sem.run Try.prog (eqGuard op 39 a b (.agg #[.string x.1, .string x.2]) (.agg #[.string y.1, .string y.2])) w = .ok () w := neqA.2
    have HNE := Lib.hid hne
    have HGD := Lib.hid hgd
    have HN := Lib.hid hn
    have hn2 : ((xs.length : Int) != (ys.length : Int)) = false := by simp [hn]
    have hn3 : (xs.length != ys.length) = false := by simp [hn]
    clear hne hgd hn
    go_enter Try.func18, Try.ntmps18
    go_wp2
    clear hn2 hn3
    go_loopw [13] (fun iv wr => ∃ k q : Nat, k ≤ xs.length ∧ iv = .int .i64 k ∧ wr = w.drewN q ∧ Hid (∀ j, j < k → xs[j]? = ys[j]?)) (fun iv _ => xs.length - (intOf iv).toNat)
    case atStart => exact ⟨0, 0, Nat.zero_le _, rfl, rfl, Lib.hid (fun j hj => absurd hj (Nat.not_lt_zero _))⟩
    case round =>
      obtain ⟨k, q, hk, rfl, rfl, HE⟩ := hrel
      by_cases hlt : k < xs.length
      · have hly : k < ys.length := by rw [← HN.out]; exact hlt
        have hly2 : (k : Int) < (ys.length : Int) := by omega
        obtain ⟨x, hx⟩ := get_lt hlt
        obtain ⟨y, hy⟩ := get_lt hly
        obtain ⟨b, off, rfl, hbl, c0, c1⟩ := H.out.at_ hx
        obtain ⟨b2, off2, rfl, hbl2, e0, e1⟩ := H2.out.at_ hy
        have HX := Lib.hid hx
        have HY := Lib.hid hy
        clear hx hy
        cases hq : (sm x.1 y.1 && sm x.2 y.2) with
        | true =>
          have n1 : ∀ w : World, Sem.run Try.prog (binOp .neq 39 (.agg #[.string x.1, .string x.2]) (.agg #[.string y.1, .string y.2])) w = .ok (.bool false) w := fun w => by
            rw [HNE.out x y w, hq]; rfl
          have n2 := fun (op : BinOp) (a b : Operand) (w : World) => HGD.out op a b x y w
          have HQ := Lib.hid (eq_at hq)
          clear hq
          go_wp2
          go_quiet (fail)
          go_wp2
          go_roundw
          case rel =>
            refine ⟨k + 1, _, by omega, by go_num, rfl, Lib.hid (fun j hj => ?_)⟩
            by_cases e : j = k
            · subst e
              rw [HX.out, HY.out, HQ.out]
            · exact HE.out j (by omega)
          case measure => simp [intOf]; omega
        | false =>
          have n1 : ∀ w : World, Sem.run Try.prog (binOp .neq 39 (.agg #[.string x.1, .string x.2]) (.agg #[.string y.1, .string y.2])) w = .ok (.bool true) w := fun w => by
            rw [HNE.out x y w, hq]; rfl
          have n2 := fun (op : BinOp) (a b : Operand) (w : World) => HGD.out op a b x y w
          have HQ := Lib.hid (ne_at HX.out HY.out hq)
          clear hq
          go_wp2
          go_quiet (fail)
          go_wp2
          go_ret
          exact ⟨by rw [HQ.out]; rfl, by first | exact below_drewN (Below.refl _ _) _ | exact below_drewN (below_drewN (Below.refl _ _) _) _⟩
      · obtain rfl : k = xs.length := by omega
        have he : decide (xs = ys) = true := decide_eq_true (List.ext_getElem? fun j => by
          rcases Nat.lt_or_ge j xs.length with hj | hj
          · exact HE.out j hj
          · rw [List.getElem?_eq_none hj, List.getElem?_eq_none (by rw [← HN.out]; exact hj)])
        have HQ := Lib.hid he
        clear he
        go_wp2
        go_ret
        exact ⟨by rw [HQ.out]; rfl, by first | exact below_drewN (Below.refl _ _) _ | exact below_drewN (below_drewN (Below.refl _ _) _) _⟩
  · have he : decide (xs = ys) = false := decide_eq_false (fun e => hn (by rw [e]))
    have HQ := Lib.hid he
    have hn2 : ((xs.length : Int) != (ys.length : Int)) = true := by simp; omega
    have hn3 : (xs.length != ys.length) = true := by simp; omega
    clear he hn
    go_enter Try.func18, Try.ntmps18
    go_wp2
    go_ret
    exact ⟨by rw [HQ.out]; rfl, Below.refl _ _⟩

/-- a token's values -/
structure TokV where
  k : Int
  n : ByteArray
  A : Option Addr
  xs : List Atr
  cap : Nat
  sf : Bool
  da : ByteArray
  pu : ByteArray
  sy : ByteArray
  hp : Bool
  hy : Bool
  qk : Bool
@[reducible] def TokV.cs (T : TokV) : Array Value := #[.int .i64 T.k, .string T.n, .slice T.A T.xs.length T.cap, .bool T.sf, .string T.da, .string T.pu, .string T.sy, .bool T.hp, .bool T.hy, .bool T.qk]
def tsm (T U : TokV) : Bool := (T.k == U.k) && sm T.n U.n && sm T.da U.da && (T.sf == U.sf) && (T.qk == U.qk) && (T.hp == U.hp) && sm T.pu U.pu && (T.hy == U.hy) && sm T.sy U.sy && decide (T.xs = U.xs)

set_option maxHeartbeats 8000000 in
set_option maxRecDepth 100000 in
theorem tsame_any (T U : TokV) (w : World) (h : RdA w T.A T.xs) (h2 : RdA w U.A U.xs) (hl : T.xs.length ≤ 1000000) :
    Calls Try.prog 10 #[.agg T.cs, .agg U.cs] w fun e w' => e = .returned (.bool (tsm T U)) ∧ Below w.heap.size w w' := by
  have hbb : Below w.heap.size w ((w.alloc (.cells T.cs 36)).alloc (.cells U.cs 36)) := ((Below.refl _ w).alloc (Nat.le_refl _) _).alloc (by simp) _
  have KE := Lib.hid (eq_any T.xs U.xs T.A U.A T.cap U.cap ((w.alloc (.cells T.cs 36)).alloc (.cells U.cs 36)) (h.below hbb) (h2.below hbb) hl)
  have HBB := Lib.hid hbb
  obtain ⟨R, hR⟩ : ∃ R, tsm T U = R := ⟨_, rfl⟩
  rw [hR]
  have hRR : R = ((T.k == U.k) && (T.n.toList == U.n.toList) && (T.da.toList == U.da.toList) && (T.sf == U.sf) && (T.qk == U.qk) && (T.hp == U.hp) && (T.pu.toList == U.pu.toList) && (T.hy == U.hy) && (T.sy.toList == U.sy.toList) && decide (T.xs = U.xs)) := hR.symm
  have HR := Lib.hid hRR
  obtain ⟨D, hD⟩ : ∃ D, decide (T.xs = U.xs) = D := ⟨_, rfl⟩
  rw [hD] at KE HR
  clear hR hRR hD hbb h h2
  obtain ⟨k, n, A, xs, cap, sf, da, pu, sy, hp, hy, qk⟩ := T
  obtain ⟨k', n', A', xs', cap', sf', da', pu', sy', hp', hy', qk'⟩ := U
  simp only at HR
  show Calls Try.prog 10 #[.agg #[.int .i64 k, .string n, .slice A xs.length cap, .bool sf, .string da, .string pu, .string sy, .bool hp, .bool hy, .bool qk], .agg #[.int .i64 k', .string n', .slice A' xs'.length cap', .bool sf', .string da', .string pu', .string sy', .bool hp', .bool hy', .bool qk']] w _
  cases q0 : (k == k') with
  | false =>
    rw [q0] at HR
    have hR : R = false := by rw [HR.out]; simp
    subst hR
    clear KE HR
    go_enter Try.func10, Try.ntmps10
    go_wp2
    go_ret
    exact ⟨rfl, HBB.out⟩
  | true =>
    rw [q0] at HR
    cases q1 : (n.toList == n'.toList) with
    | false =>
      rw [q1] at HR
      have hR : R = false := by rw [HR.out]; simp
      subst hR
      clear KE HR
      go_enter Try.func10, Try.ntmps10
      go_wp2
      go_ret
      exact ⟨rfl, HBB.out⟩
    | true =>
      rw [q1] at HR
      cases q2 : (da.toList == da'.toList) with
      | false =>
        rw [q2] at HR
        have hR : R = false := by rw [HR.out]; simp
        subst hR
        clear KE HR
        go_enter Try.func10, Try.ntmps10
        go_wp2
        go_ret
        exact ⟨rfl, HBB.out⟩
      | true =>
        rw [q2] at HR
        cases q3 : (sf == sf') with
        | false =>
          rw [q3] at HR
          have hR : R = false := by rw [HR.out]; simp
          subst hR
          clear KE HR
          go_enter Try.func10, Try.ntmps10
          go_wp2
          go_ret
          exact ⟨rfl, HBB.out⟩
        | true =>
          rw [q3] at HR
          cases q4 : (qk == qk') with
          | false =>
            rw [q4] at HR
            have hR : R = false := by rw [HR.out]; simp
            subst hR
            clear KE HR
            go_enter Try.func10, Try.ntmps10
            go_wp2
            go_ret
            exact ⟨rfl, HBB.out⟩
          | true =>
            rw [q4] at HR
            cases q5 : (hp == hp') with
            | false =>
              rw [q5] at HR
              have hR : R = false := by rw [HR.out]; simp
              subst hR
              clear KE HR
              go_enter Try.func10, Try.ntmps10
              go_wp2
              go_ret
              exact ⟨rfl, HBB.out⟩
            | true =>
              rw [q5] at HR
              cases q6 : (pu.toList == pu'.toList) with
              | false =>
                rw [q6] at HR
                have hR : R = false := by rw [HR.out]; simp
                subst hR
                clear KE HR
                go_enter Try.func10, Try.ntmps10
                go_wp2
                go_ret
                exact ⟨rfl, HBB.out⟩
              | true =>
                rw [q6] at HR
                cases q7 : (hy == hy') with
                | false =>
                  rw [q7] at HR
                  have hR : R = false := by rw [HR.out]; simp
                  subst hR
                  clear KE HR
                  go_enter Try.func10, Try.ntmps10
                  go_wp2
                  go_ret
                  exact ⟨rfl, HBB.out⟩
                | true =>
                  rw [q7] at HR
                  cases q8 : (sy.toList == sy'.toList) with
                  | false =>
                    rw [q8] at HR
                    have hR : R = false := by rw [HR.out]; simp
                    subst hR
                    clear KE HR
                    go_enter Try.func10, Try.ntmps10
                    go_wp2
                    go_ret
                    exact ⟨rfl, HBB.out⟩
                  | true =>
                    rw [q8] at HR
                    have hR : R = D := by rw [HR.out]; simp
                    subst hR
                    clear HR
                    go_enter Try.func10, Try.ntmps10
                    go_wp2_with fail
                    refine KE.out.mono ?_
                    rintro e w2 ⟨rfl, hb2⟩
                    go_wp2
                    go_ret
                    exact ⟨rfl, HBB.out.trans (hb2.mono HBB.out.size)⟩

end Go.Proofs.Ytanbbomdidefjaa
