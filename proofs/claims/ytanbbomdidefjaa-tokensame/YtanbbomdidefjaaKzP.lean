/- The law TokenSame holds: for every token and every number the call returns true. -/
import Derived.Test.YtanbbomdidefjaaKz
import Derived.Test.YtanbbomdidefjaaKg
import Derived.Test.YtanbbomdidefjaaPo
import Derived.Test.YtanbbomdidefjaaRows
import Derived.Test.YtanbbomdidefjaaChecked
import Derived.ProofKit
import Derived.OpenShut
import Derived.ChangeMaps5
import Derived.SizedLaws
namespace Go.Proofs.Ytanbbomdidefjaa
open Go.ChangeShapes Go.WideShapes Go.ChangeAt Go.RowKit Go.ChangeMaps

theorem own : ownKnob Try.prog.godebug = none := by kernel_rfl
theorem laidOut : laidOutB Try.prog = true := by kernel_rfl

set_option maxRecDepth 100000 in
theorem tokenSame_lifted (os : Os) (started : os.Started) (H : Type) (enc : TypeId × Value → H) :
    ReturnsInHanded {} Try.checked os 4 .any (Rows.tokenSameSpec.pre6 enc Try.prog Try.f4 Rows.tokenSameRow.domain false) (Rows.tokenSameSpec.post enc Try.prog Try.f4 false true false false) := by
  refine returnsInHanded_of_change_sized (C := Try.checked) own started (by kernel_rfl) Try.func4
    (ChangeSpec.witness6 (enc := enc) (C := Try.checked) false ⟨#[], #[.agg #[.int .i64 0, .string ⟨#[]⟩, .slice none 0 0, .bool false, .string ⟨#[]⟩, .string ⟨#[]⟩, .string ⟨#[]⟩, .bool false, .bool false, .bool false], .int .i64 0], []⟩ 8 (by kernel_rfl) (by kernel_rfl) (by kernel_rfl) (by kernel_rfl)) ?_
  intro W base args ds gs before hval0 hW hcnd hwt _
  have hval : ∀ (j : Nat) t v, Try.f4.params[j]? = some t → args[j]? = some v → Value.okWide Try.prog W .any base t v := hval0
  have hW' := hW
  obtain ⟨p, q, hA0, hV, rfl, hfz, hnd⟩ := hW
  have hA : DataW.TrodAll enc Try.prog W 0 (fun _ => true) true Try.f4.params.toList args.toList ds p := hA0
  rw [Try.params4] at hA hval
  obtain ⟨v0, v1, d0, d1, p0, p1, rfl, rfl, rfl, h0, h1⟩ := trodAll_two hA
  obtain ⟨rfl, rfl⟩ := trodVars_none hV
  obtain ⟨k, n, A, xs, cap, sf, da, pu, sy, hp, hy, qk, rfl, wk, hn1, hn2, hn3, hn4, hrd, hsz, hcap, hmax, hnone, hcap0, hws⟩ := open_tok1 (ti := 3) (ts := 9) (tb := 4) (ta := 34) (e := 39) Try.underlying36 (by kernel_rfl) rfl rfl rfl rfl rfl rfl rfl rfl rfl rfl rfl rfl rfl rfl rfl rfl rfl rfl rfl rfl (by kernel_rfl) (by kernel_rfl) (by kernel_rfl) (by kernel_rfl) (by kernel_rfl) Try.underlying3 Try.underlying9 Try.underlying4 Try.underlying34 Try.underlying39 rfl rfl rfl rfl (hval 0 36 v0 rfl rfl) h0
  obtain ⟨t, rfl, rfl, rfl, wn⟩ := open_int Try.underlying3 (hval 1 3 v1 rfl rfl) h1
  clear hA0 hval0
  simp only [List.append_nil] at hW'
  have hwt' := hws (fun m hm => by
    have := List.all_eq_true.1 hwt m (DataW.weights_mem_each (j := 0) (t := 36) (by rw [Try.params4]; rfl) rfl m hm)
    simpa using this)
  refine (tokenSame_law k n A xs cap sf da pu sy hp hy qk t W hrd (by omega) (fun h => ⟨hcap0 h, hnone h⟩) hwt').mono fun e W' ⟨he, hb⟩ => ?_
  subst he
  exact ⟨_, rfl, law_post laidOut (by kernel_rfl) (by kernel_rfl) Try.underlying4 rfl hW' rfl hb⟩

theorem tokenSame_holds : Rows.TokenSameSaid :=
  OpenClaim.holds_of_wide 4 Try.f4 rfl rfl rfl rfl rfl rfl rfl ⟨rfl, rfl, rfl, rfl, rfl⟩ rfl rfl rfl rfl rfl (by kernel_rfl) Try.func4 (by kernel_rfl)
    (of_decide_eq_true (by kernel_rfl)) (by unfold Func.isWrapper; first | (rw [if_pos (by decide +kernel)]; kernel_rfl) | (rw [if_neg (by decide +kernel)]; exact ⟨rfl, rfl⟩))
    (fun os started H enc _ => tokenSame_lifted os started H enc)
#print axioms tokenSame_holds
end Go.Proofs.Ytanbbomdidefjaa
