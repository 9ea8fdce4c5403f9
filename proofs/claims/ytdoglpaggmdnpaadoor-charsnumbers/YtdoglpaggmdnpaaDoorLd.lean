/- A laid array of integers, cell by cell. -/
import Derived.ProofKit
import Derived.OpenShut
namespace Go.Proofs.YtdoglpaggmdnpaaDoor
open Go.ChangeShapes Go.WideShapes

theorem ints_of_trod {H : Type} {enc : TypeId × Value → H} {P : Program} {w : World} {base : Nat} {spare : Nat → Bool} {held : Bool} {fuel : Nat} {t e : TypeId} {n : Nat} {k : IntKind} {cs : List Value} {zs : List Int} {q : List MemPlace}
    (ht : P.underlying t = some (.array n e)) (he : P.underlying e = some (.int k)) (hc : P.cellsOf e = 1)
    (h : DataW.trod enc P w base spare held fuel t cs = some (.agg (zs.map fun z => .lit (.int k z)), q)) : ∀ i, i < n → cs[i]? = some (.int k (zs[i]?.getD 0)) := by
  intro i hi
  obtain ⟨xs, m, rfl, hx, hl, hn, hel⟩ := DataW.trod_array ht h
  have hix := hel i hi
  rw [hc, Nat.mul_one, List.getElem?_eq_getElem (by omega)] at hix
  obtain ⟨v, e1, e2, _⟩ := DataW.trod_int he hix
  have hz : zs[i]? = some v := by
    have h1 : (zs.map fun z => (DataW.lit (.int k z) : DataW H)) = xs.map (·.1) := by simpa using congrArg Prod.fst hx
    have h2 := congrArg (fun l => l[i]?) h1
    simp only [List.getElem?_map] at h2
    rw [List.getElem?_eq_getElem (show i < xs.length by omega), e2] at h2
    cases hzi : zs[i]? with
    | none => rw [hzi] at h2; simp at h2
    | some z => rw [hzi] at h2; simp at h2; rw [h2]
  rw [hz]
  have h3 : (List.take 1 (List.drop i cs))[0]? = cs[i]? := by simp
  rw [← h3, e1]
  rfl

end Go.Proofs.YtdoglpaggmdnpaaDoor
