/- Small calls of a tree: size, has, Kind, Up, kids, inner. -/
import Derived.Test.YtfkbjniodomdjaaEa
namespace Go.Proofs.Ytfkbjniodomdjaa
open Go.RowKit Go.Lib

section
variable {base D : Nat} {v : Value} {qk : Bool} {ns : List Nd}
theorem size_any (W : World) (h : DocM base D v qk ns W) : Calls Try.prog 46 #[.pointer (some ⟨D, 0, none⟩)] W fun e W' => e = .returned (.int .i64 ns.length) ∧ W' = W := by
  obtain ⟨A, cap, rfl, _, _, _⟩ := h.sl
  have c0 := h.cells.1
  clear h
  go_enter Try.func46, Try.ntmps46
  go_wp2
  go_ret
  exact ⟨rfl, rfl⟩
/-- whether there is a node of a number -/
def inN (ns : List Nd) (n : Int) : Bool := decide (0 ≤ n) && decide (n < ns.length)
theorem has_any (n : Int) (W : World) (h : DocM base D v qk ns W) : Calls Try.prog 42 #[.pointer (some ⟨D, 0, none⟩), .int .i64 n] W fun e W' => e = .returned (.bool (inN ns n)) ∧ W' = W := by
  have KS := Lib.hid (size_any W h)
  clear h
  unfold inN
  by_cases h0 : 0 ≤ n
  · have d0 : decide (0 ≤ n) = true := decide_eq_true h0
    rw [d0, Bool.true_and]
    obtain ⟨b, hb⟩ : ∃ b, decide (n < (ns.length : Int)) = b := ⟨_, rfl⟩
    rw [hb]
    go_enter Try.func42, Try.ntmps42
    go_wp2_with fail
    refine KS.out.mono ?_
    rintro e w1 ⟨rfl, rfl⟩
    go_wp2
    go_ret
    exact ⟨rfl, rfl⟩
  · have d0 : decide (0 ≤ n) = false := decide_eq_false h0
    rw [d0, Bool.false_and]
    clear h0
    go_enter Try.func42, Try.ntmps42
    go_wp2
    go_ret
    exact ⟨rfl, rfl⟩
theorem inN_of {i : Nat} {x : Nd} (hx : ns[i]? = some x) : inN ns i = true := by
  have := (List.getElem?_eq_some_iff.1 hx).1
  unfold inN
  rw [decide_eq_true (by omega), decide_eq_true (by omega)]
  rfl
theorem inN_at {n : Int} (h : inN ns n = true) : ∃ (i : Nat) (x : Nd), n = i ∧ ns[i]? = some x := by
  unfold inN at h
  simp only [Bool.and_eq_true, decide_eq_true_eq] at h
  exact ⟨n.toNat, ns[n.toNat]'(by omega), by omega, List.getElem?_eq_getElem (by omega)⟩
theorem kind_none (n : Int) (W : World) (h : DocM base D v qk ns W) (hn : inN ns n = false) : Calls Try.prog 13 #[.pointer (some ⟨D, 0, none⟩), .int .i64 n] W fun e W' => e = .returned (.int .i64 0) ∧ W' = W := by
  have KH := Lib.hid (has_any n W h)
  rw [hn] at KH
  clear h hn
  go_enter Try.func13, Try.ntmps13
  go_wp2_with fail
  refine KH.out.mono ?_
  rintro e w1 ⟨rfl, rfl⟩
  go_wp2
  go_ret
  exact ⟨rfl, rfl⟩
theorem kind_some {i : Nat} {x : Nd} (W : World) (h : DocM base D v qk ns W) (hx : ns[i]? = some x) : Calls Try.prog 13 #[.pointer (some ⟨D, 0, none⟩), .int .i64 i] W fun e W' => e = .returned (.int .i64 x.kind) ∧ W' = W := by
  have KH := Lib.hid (has_any i W h)
  rw [inN_of hx] at KH
  obtain ⟨A, cap, rfl, hle, hmx, hg⟩ := h.sl
  have hi := (List.getElem?_eq_some_iff.1 hx).1
  obtain ⟨g, rfl, _, _⟩ := hg (by omega)
  have c0 := h.cells.1
  have k0 := h.cell hx (show 0 < 10 by omega)
  simp only [Nd.cs, List.getElem?_cons_zero, Nat.add_zero] at k0
  unfold maxLen at hmx
  clear h hx hg
  go_enter Try.func13, Try.ntmps13
  go_wp2_with fail
  refine KH.out.mono ?_
  rintro e w1 ⟨rfl, rfl⟩
  go_wp2
  go_ret
  exact ⟨rfl, rfl⟩
end
end Go.Proofs.Ytfkbjniodomdjaa
