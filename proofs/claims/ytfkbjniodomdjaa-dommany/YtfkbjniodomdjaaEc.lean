/- More small calls of a tree: Up, kids, inner, holds, above. -/
import Derived.Test.YtfkbjniodomdjaaEb
namespace Go.Proofs.Ytfkbjniodomdjaa
open Go.RowKit Go.Lib

/-- the field's value, or what stands for it where there is no node -/
def atN {β : Type} (ns : List Nd) (n : Int) (f : Nd → β) (d : β) : β := if inN ns n then ((ns[n.toNat]?).map f).getD d else d
theorem atN_none {β : Type} {ns : List Nd} {n : Int} {f : Nd → β} {d : β} (h : inN ns n = false) : atN ns n f d = d := by unfold atN; rw [h]; rfl
theorem atN_some {β : Type} {ns : List Nd} {i : Nat} {x : Nd} {f : Nd → β} {d : β} (h : ns[i]? = some x) : atN ns i f d = f x := by
  unfold atN
  rw [inN_of h, if_pos rfl, Int.toNat_natCast, h]
  rfl
section
variable {base D : Nat} {v : Value} {qk : Bool} {ns : List Nd}
theorem kind_any (n : Int) (W : World) (h : DocM base D v qk ns W) : Calls Try.prog 13 #[.pointer (some ⟨D, 0, none⟩), .int .i64 n] W fun e W' => e = .returned (.int .i64 (atN ns n Nd.kind 0)) ∧ W' = W := by
  cases hn : inN ns n with
  | false => rw [atN_none hn]; exact kind_none n W h hn
  | true =>
    obtain ⟨i, x, rfl, hx⟩ := inN_at hn
    rw [atN_some hx]
    exact kind_some W h hx
theorem up_any (n : Int) (W : World) (h : DocM base D v qk ns W) : Calls Try.prog 14 #[.pointer (some ⟨D, 0, none⟩), .int .i64 n] W fun e W' => e = .returned (.int .i64 (atN ns n Nd.up (-1))) ∧ W' = W := by
  have KH := Lib.hid (has_any n W h)
  cases hn : inN ns n with
  | false =>
    rw [atN_none hn]
    rw [hn] at KH
    clear h hn
    go_enter Try.func14, Try.ntmps14
    go_wp2_with fail
    refine KH.out.mono ?_
    rintro e w1 ⟨rfl, rfl⟩
    go_wp2
    go_ret
    exact ⟨rfl, rfl⟩
  | true =>
    rw [hn] at KH
    obtain ⟨i, x, rfl, hx⟩ := inN_at hn
    rw [atN_some hx]
    obtain ⟨A, cap, rfl, hle, hmx, hg⟩ := h.sl
    have hi := (List.getElem?_eq_some_iff.1 hx).1
    obtain ⟨g, rfl, _, _⟩ := hg (by omega)
    have c0 := h.cells.1
    have k0 : W.cell? ⟨g, i * 10 + 7, none⟩ = some (.int .i64 x.up) := h.cell hx (show 7 < 10 by omega)
    unfold maxLen at hmx
    clear h hx hg hn
    go_enter Try.func14, Try.ntmps14
    go_wp2_with fail
    refine KH.out.mono ?_
    rintro e w1 ⟨rfl, rfl⟩
    go_wp2
    go_ret
    exact ⟨rfl, rfl⟩
theorem kids_any (n : Int) (W : World) (h : DocM base D v qk ns W) : Calls Try.prog 44 #[.pointer (some ⟨D, 0, none⟩), .int .i64 n] W fun e W' => e = .returned (atN ns n Nd.kv (.slice none 0 0)) ∧ W' = W := by
  have KH := Lib.hid (has_any n W h)
  cases hn : inN ns n with
  | false =>
    rw [atN_none hn]
    rw [hn] at KH
    clear h hn
    go_enter Try.func44, Try.ntmps44
    go_wp2_with fail
    refine KH.out.mono ?_
    rintro e w1 ⟨rfl, rfl⟩
    go_wp2
    go_ret
    exact ⟨rfl, rfl⟩
  | true =>
    rw [hn] at KH
    obtain ⟨i, x, rfl, hx⟩ := inN_at hn
    rw [atN_some hx]
    obtain ⟨A, cap, rfl, hle, hmx, hg⟩ := h.sl
    have hi := (List.getElem?_eq_some_iff.1 hx).1
    obtain ⟨g, rfl, _, _⟩ := hg (by omega)
    have c0 := h.cells.1
    have k0 : W.cell? ⟨g, i * 10 + 8, none⟩ = some x.kv := h.cell hx (show 8 < 10 by omega)
    unfold maxLen at hmx
    clear h hx hg hn
    go_enter Try.func44, Try.ntmps44
    go_wp2_with fail
    refine KH.out.mono ?_
    rintro e w1 ⟨rfl, rfl⟩
    go_wp2
    go_ret
    exact ⟨rfl, rfl⟩
/-- the node beneath which a template's contents stand -/
def innN (ns : List Nd) (n : Int) : Int := atN ns n (fun x => if x.inner ≤ 0 then -1 else x.inner) (-1)
theorem inner_any (n : Int) (W : World) (h : DocM base D v qk ns W) : Calls Try.prog 54 #[.pointer (some ⟨D, 0, none⟩), .int .i64 n] W fun e W' => e = .returned (.int .i64 (innN ns n)) ∧ W' = W := by
  have KH := Lib.hid (has_any n W h)
  unfold innN
  cases hn : inN ns n with
  | false =>
    rw [atN_none hn]
    rw [hn] at KH
    clear h hn
    go_enter Try.func54, Try.ntmps54
    go_wp2_with fail
    refine KH.out.mono ?_
    rintro e w1 ⟨rfl, rfl⟩
    go_wp2
    go_ret
    exact ⟨rfl, rfl⟩
  | true =>
    rw [hn] at KH
    obtain ⟨i, x, rfl, hx⟩ := inN_at hn
    rw [atN_some hx]
    obtain ⟨A, cap, rfl, hle, hmx, hg⟩ := h.sl
    have hi := (List.getElem?_eq_some_iff.1 hx).1
    obtain ⟨g, rfl, _, _⟩ := hg (by omega)
    have c0 := h.cells.1
    have k0 : W.cell? ⟨g, i * 10 + 9, none⟩ = some (.int .i64 x.inner) := h.cell hx (show 9 < 10 by omega)
    unfold maxLen at hmx
    clear h hx hg hn
    by_cases hi0 : x.inner ≤ 0
    · have d0 : decide (x.inner ≤ 0) = true := decide_eq_true hi0
      rw [if_pos hi0]
      clear hi0
      go_enter Try.func54, Try.ntmps54
      go_wp2_with fail
      refine KH.out.mono ?_
      rintro e w1 ⟨rfl, rfl⟩
      go_wp2
      go_ret
      exact ⟨rfl, rfl⟩
    · have d0 : decide (x.inner ≤ 0) = false := decide_eq_false hi0
      rw [if_neg hi0]
      clear hi0
      go_enter Try.func54, Try.ntmps54
      go_wp2_with fail
      refine KH.out.mono ?_
      rintro e w1 ⟨rfl, rfl⟩
      go_wp2
      go_ret
      exact ⟨rfl, rfl⟩
theorem holds_any (n : Int) (W : World) (h : DocM base D v qk ns W) : Calls Try.prog 61 #[.pointer (some ⟨D, 0, none⟩), .int .i64 n] W fun e W' => e = .returned (.bool (atN ns n Nd.kind 0 == 1 || atN ns n Nd.kind 0 == 2)) ∧ W' = W := by
  have KK := Lib.hid (kind_any n W h)
  obtain ⟨k, hk⟩ : ∃ k, atN ns n Nd.kind 0 = k := ⟨_, rfl⟩
  rw [hk] at KK ⊢
  clear h hk
  cases h1 : (k == 1) with
  | true =>
    go_enter Try.func61, Try.ntmps61
    go_wp2_with fail
    refine KK.out.mono ?_
    rintro e w1 ⟨rfl, rfl⟩
    go_wp2
    go_ret
    exact ⟨rfl, rfl⟩
  | false =>
    obtain ⟨b, hb⟩ : ∃ b, (k == 2) = b := ⟨_, rfl⟩
    rw [hb, Bool.false_or]
    go_enter Try.func61, Try.ntmps61
    go_wp2_with fail
    refine KK.out.mono ?_
    rintro e w1 ⟨rfl, rfl⟩
    go_wp2
    go_ret
    exact ⟨rfl, rfl⟩
/-- the node above one, or the template whose contents it is -/
def aboveN (ns : List Nd) (n : Int) : Int := if atN ns n Nd.up (-1) ≠ -1 then atN ns n Nd.up (-1) else if innN ns (wrap64 (n - 1)) = n then wrap64 (n - 1) else -1
end
end Go.Proofs.Ytfkbjniodomdjaa
