/- The law DomSame holds: for every node, all attributes and every number the call returns true. -/
import Derived.Test.YtodlcfhkiilpgaaJt
import Derived.Test.YtodlcfhkiilpgaaJv
import Derived.Test.YtodlcfhkiilpgaaPo
import Derived.Test.YtodlcfhkiilpgaaRows
import Derived.Test.YtodlcfhkiilpgaaChecked
import Derived.ProofKit
import Derived.OpenShut
import Derived.ChangeMaps5
import Derived.SizedLaws
namespace Go.Proofs.Ytodlcfhkiilpgaa
open Go.ChangeShapes Go.WideShapes Go.ChangeAt Go.RowKit Go.ChangeMaps

theorem own : ownKnob Try.prog.godebug = none := by kernel_rfl
theorem laidOut : laidOutB Try.prog = true := by kernel_rfl

set_option maxRecDepth 100000 in
theorem domSame_lifted (os : Os) (started : os.Started) (H : Type) (enc : TypeId × Value → H) :
    ReturnsInHanded {} Try.checked os 6 .any (Rows.domSameSpec.pre6 enc Try.prog Try.f6 Rows.domSameRow.domain false) (Rows.domSameSpec.post enc Try.prog Try.f6 false true false false) := by
  refine returnsInHanded_of_change_sized (C := Try.checked) own started (by kernel_rfl) Try.func6
    (ChangeSpec.witness6 (enc := enc) (C := Try.checked) false ⟨#[], #[.agg #[.int .i64 0, .int .i64 0, .string ⟨#[]⟩, .string ⟨#[]⟩, .slice none 0 0, .string ⟨#[]⟩, .string ⟨#[]⟩, .int .i64 0, .slice none 0 0, .int .i64 0], .slice none 0 0, .int .i64 0], []⟩ 8 (by kernel_rfl) (by kernel_rfl) (by kernel_rfl) (by kernel_rfl)) ?_
  intro W base args ds gs before hval0 hW hcnd hwt _
  have hval : ∀ (j : Nat) t v, Try.f6.params[j]? = some t → args[j]? = some v → Value.okWide Try.prog W .any base t v := hval0
  have hW' := hW
  obtain ⟨p, q, hA0, hV, rfl, hfz, hnd⟩ := hW
  have hA : DataW.TrodAll enc Try.prog W 0 (fun _ => true) true Try.f6.params.toList args.toList ds p := hA0
  rw [Try.params6] at hA hval
  obtain ⟨v0, v1, v2, d0, d1, d2, p0, p1, p2, rfl, rfl, rfl, h0, h1, h2⟩ := trodAll_three hA
  obtain ⟨rfl, rfl⟩ := trodVars_none hV
  obtain ⟨kind, space, name, data, sA, sn, sc, pub, sys, up, kA, kn, kc, inner, rfl, hws⟩ := open_node1 (ti := 3) (ts := 9) (ta := 26) (tk := 27) Try.underlying29 (by kernel_rfl) rfl rfl rfl rfl rfl rfl rfl rfl rfl rfl rfl rfl rfl rfl rfl rfl rfl rfl rfl rfl (by kernel_rfl) (by kernel_rfl) (by kernel_rfl) (by kernel_rfl) Try.underlying3 Try.underlying9 Try.underlying26 Try.underlying27 (hval 0 29 v0 rfl rfl) h0
  obtain ⟨A, xs, cap, rfl, hrd, _, hcap, hmax, hnone, hcap0⟩ := open_attrs (ts := 9) Try.underlying26 Try.underlying54 (by kernel_rfl) rfl rfl rfl rfl (by kernel_rfl) Try.underlying9 (hval 1 26 v1 rfl rfl) h1
  obtain ⟨t, rfl, rfl, rfl, wn⟩ := open_int Try.underlying3 (hval 2 3 v2 rfl rfl) h2
  clear hA0 hval0
  simp only [List.append_nil] at hW'
  have hwt' := hws (fun m hm => by
    have := List.all_eq_true.1 hwt m (DataW.weights_mem_each (j := 0) (t := 29) (by rw [Try.params6]; rfl) rfl m hm)
    simpa using this)
  refine (domSame_law kind space name data sA sn sc pub sys up kA kn kc inner A xs cap t W hrd (by omega) (fun h => ⟨hcap0 h, hnone h⟩) hwt').mono fun e W' ⟨he, hb⟩ => ?_
  subst he
  exact ⟨_, rfl, law_post laidOut (by kernel_rfl) (by kernel_rfl) Try.underlying4 rfl hW' rfl hb⟩

theorem domSame_holds : Rows.DomSameSaid :=
  OpenClaim.holds_of_wide 6 Try.f6 rfl rfl rfl rfl rfl rfl rfl ⟨rfl, rfl, rfl, rfl, rfl⟩ rfl rfl rfl rfl rfl (by kernel_rfl) Try.func6 (by kernel_rfl)
    (of_decide_eq_true (by kernel_rfl)) (by unfold Func.isWrapper; first | (rw [if_pos (by decide +kernel)]; kernel_rfl) | (rw [if_neg (by decide +kernel)]; exact ⟨rfl, rfl⟩))
    (fun os started H enc _ => domSame_lifted os started H enc)
#print axioms domSame_holds
end Go.Proofs.Ytodlcfhkiilpgaa
