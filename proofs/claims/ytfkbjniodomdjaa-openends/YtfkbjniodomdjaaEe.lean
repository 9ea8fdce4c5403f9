/- Name. -/
import Derived.Test.YtfkbjniodomdjaaEd
namespace Go.Proofs.Ytfkbjniodomdjaa
open Go.RowKit Go.Lib

section
variable {base D : Nat} {v : Value} {qk : Bool} {ns : List Nd}
/-- an element's name -/
def nmN (x : Nd) : ByteArray := if x.kind == 2 then x.name else ⟨#[]⟩
theorem name_any (n : Int) (W : World) (h : DocM base D v qk ns W) : Calls Try.prog 40 #[.pointer (some ⟨D, 0, none⟩), .int .i64 n] W fun e W' => e = .returned (.string (atN ns n nmN ⟨#[]⟩)) ∧ W' = W := by
  have KK := Lib.hid (kind_any n W h)
  cases hn : inN ns n with
  | false =>
    rw [atN_none hn] at KK ⊢
    clear h hn
    go_enter Try.func40, Try.ntmps40
    go_wp2_with fail
    refine KK.out.mono ?_
    rintro e w1 ⟨rfl, rfl⟩
    go_wp2
    go_ret
    exact ⟨rfl, rfl⟩
  | true =>
    obtain ⟨i, x, rfl, hx⟩ := inN_at hn
    rw [atN_some hx] at KK ⊢
    obtain ⟨A, cap, rfl, hle, hmx, hg⟩ := h.sl
    have hi := (List.getElem?_eq_some_iff.1 hx).1
    obtain ⟨g, rfl, _, _⟩ := hg (by omega)
    have c0 := h.cells.1
    have k0 : W.cell? ⟨g, i * 10 + 2, none⟩ = some (.string x.name) := h.cell hx (show 2 < 10 by omega)
    unfold maxLen at hmx
    clear h hx hg hn
    unfold nmN
    cases hk : (x.kind == 2) with
    | false =>
      go_enter Try.func40, Try.ntmps40
      go_wp2_with fail
      refine KK.out.mono ?_
      rintro e w1 ⟨rfl, rfl⟩
      go_wp2
      go_ret
      exact ⟨rfl, rfl⟩
    | true =>
      go_enter Try.func40, Try.ntmps40
      go_wp2_with fail
      refine KK.out.mono ?_
      rintro e w1 ⟨rfl, rfl⟩
      go_wp2
      go_ret
      exact ⟨rfl, rfl⟩
end
end Go.Proofs.Ytfkbjniodomdjaa
