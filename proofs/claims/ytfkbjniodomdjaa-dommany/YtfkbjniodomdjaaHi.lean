/- The contract of Kids. -/
import Derived.Test.YtfkbjniodomdjaaGd
import Derived.Test.YtfkbjniodomdjaaGb
namespace Go.Proofs.Ytfkbjniodomdjaa
open Go.RowKit Go.Shelf Go.Lib
attribute [local go_sem] Oper.semAt_some

section
variable {base D : Nat} {v : Value} {qk : Bool} {ns : List Nd}
set_option maxRecDepth 100000 in
theorem Kids_any (n : Int) (W : World) (h : DocM base D v qk ns W) (hn : (kdN ns n).length < 1000000) : Calls Try.prog 15 #[.pointer (some ⟨D, 0, none⟩), .int .i64 n] W fun e W' => ∃ v', e = .returned v' ∧ W'.ownsRow W.heap.size 3 1 v' (kdN ns n).length ((kdN ns n).map (Value.int .i64)) ∧ Below W.heap.size W W' := by
  have KK := Lib.hid (kids_any n W h)
  obtain ⟨A, c, e1, _, _, _, _, ho⟩ := kids_form n h
  have KC := Lib.hid (cloI_any ho hn)
  rw [e1] at KK KC
  clear h ho e1
  go_enter Try.func15, Try.ntmps15
  go_wp2_with fail
  refine KK.out.mono ?_
  rintro e w1 ⟨rfl, rfl⟩
  go_wp2_with fail
  refine KC.out.mono ?_
  rintro e w2 ⟨v', rfl, ho, hb⟩
  go_wp2
  go_ret
  exact ⟨_, rfl, ho, hb⟩
end
end Go.Proofs.Ytfkbjniodomdjaa
