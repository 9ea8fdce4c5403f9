/- More small calls of a tree: Up, kids, inner, holds, above. -/
import Derived.Test.YtgfjilokpmafpabEb
namespace Go.Proofs.Ytgfjilokpmafpab
open Go.RowKit Go.Lib

/-- the field's value, or what stands for it where there is no node -/
def atN {β : Type} (ns : List Nd) (n : Int) (f : Nd → β) (d : β) : β := if inN ns n then ((ns[n.toNat]?).map f).getD d else d
theorem atN_none {β : Type} {ns : List Nd} {n : Int} {f : Nd → β} {d : β} (h : inN ns n = false) : atN ns n f d = d := by unfold atN; rw [h]; rfl
theorem atN_some {β : Type} {ns : List Nd} {i : Nat} {x : Nd} {f : Nd → β} {d : β} (h : ns[i]? = some x) : atN ns i f d = f x := by
  unfold atN
  rw [inN_of h, if_pos rfl, Int.toNat_natCast, h]
  rfl
section
variable {base D : Nat} {v : Value} {qk : Bool} {ns : List Nd}
theorem kind_any (n : Int) (W : World) (h : DocM base D v qk ns W) : Calls Try.prog 47 #[.pointer (some ⟨D, 0, none⟩), .int .i64 n] W fun e W' => e = .returned (.int .i64 (atN ns n Nd.kind 0)) ∧ W' = W := by
  cases hn : inN ns n with
  | false => rw [atN_none hn]; exact kind_none n W h hn
  | true =>
    obtain ⟨i, x, rfl, hx⟩ := inN_at hn
    rw [atN_some hx]
    exact kind_some W h hx
/-- the node beneath which a template's contents stand -/
def innN (ns : List Nd) (n : Int) : Int := atN ns n (fun x => if x.inner ≤ 0 then -1 else x.inner) (-1)
/-- the node above one, or the template whose contents it is -/
def aboveN (ns : List Nd) (n : Int) : Int := if atN ns n Nd.up (-1) ≠ -1 then atN ns n Nd.up (-1) else if innN ns (wrap64 (n - 1)) = n then wrap64 (n - 1) else -1
end
end Go.Proofs.Ytgfjilokpmafpab
