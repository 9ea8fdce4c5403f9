/- A slice of integers that comes in, opened. -/
import Derived.Test.YtfkbjniodomdjaaDoorMem
import Derived.Test.YtfkbjniodomdjaaDoorPo
import Derived.ProofKit
import Derived.OpenShut
namespace Go.Proofs.YtfkbjniodomdjaaDoor
open Go.RowKit Go.WideShapes Go.ChangeShapes

theorem open_rd {H : Type} {enc : TypeId × Value → H} {P : Program} {W : World} {base : Nat} {t e : TypeId} {k : IntKind} {v : Value} {d : DataW H} {p : List MemPlace}
    (ht : P.underlying t = some (.slice e)) (he : P.underlying e = some (.int k)) (hc : P.cellsOf e = 1) (hv : Value.okWide P W .any base t v) (h : DataW.Trod enc P W 0 (fun _ => true) true t v d p) :
    ∃ A rs cap, v = .slice A rs.length cap ∧ Rd W k A rs ∧ rs.length ≤ cap ∧ cap ≤ maxLen ∧ (∀ n ∈ rs, (Lit.int k n).wf = true) ∧ (A = none → cap = 0) := by
  obtain ⟨a0, len, cap, rfl⟩ := okWide_slice ht hv
  obtain ⟨fuel, hf⟩ := h
  rcases open_ints ht he hc hf with ⟨hcs, hx⟩ | ⟨a, len', cap', zs, hcs, _, hl, hm, hz, hx, hcell, hwz⟩
  · simp [Value.cells] at hcs
    obtain ⟨rfl, rfl, rfl⟩ := hcs
    exact ⟨none, [], 0, rfl, .inl rfl, by simp, by simp, fun n hn => (by simp at hn), fun _ => rfl⟩
  · simp [Value.cells] at hcs
    obtain ⟨rfl, rfl, rfl⟩ := hcs
    simp only [if_true] at hz
    have hlen : (zs.take len).length = len := by simp; omega
    refine ⟨some a, zs.take len, cap, by rw [hlen], ?_, by omega, hm, fun n hn => hwz n (List.mem_of_mem_take hn), fun h => (by cases h)⟩
    by_cases h0 : len = 0
    · left
      subst h0
      simp
    · right
      obtain ⟨b, off, rfl, hcl⟩ := ints_at hcell (by omega)
      refine ⟨b, off, rfl, block_lt (hcl 0 (by omega)), fun i hi => ?_⟩
      rw [hlen] at hi
      rw [hcl i (by omega)]
      simp [hi]

theorem getD_bd {rs : List Int} {lo hi : Int} (h0 : lo ≤ 0) (h1 : 0 ≤ hi) (h : ∀ n ∈ rs, lo ≤ n ∧ n ≤ hi) (i : Nat) : lo ≤ rs[i]?.getD 0 ∧ rs[i]?.getD 0 ≤ hi := by
  cases hi' : rs[i]? with
  | none => simp; omega
  | some x => exact h x (List.mem_of_getElem? hi')

end Go.Proofs.YtfkbjniodomdjaaDoor
