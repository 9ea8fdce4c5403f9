/- A list of rows of bytes that comes in, opened. -/
import Derived.Test.YtanbbomdidefjaaRg
import Derived.Test.YtanbbomdidefjaaOp
import Derived.Deep.Slices
namespace Go.Proofs.Ytanbbomdidefjaa
open Go.RowKit Go.WideShapes Go.ChangeShapes Go.Deep

theorem open_el {H : Type} {enc : TypeId × Value → H} {P : Program} {W : World} {t e : TypeId} {v : Value} {x : DataW H × List MemPlace} {fuel : Nat}
    (ht : P.underlying t = some (.slice e)) (he : P.underlying e = some (.int .u8)) (hc : P.cellsOf e = 1) (hf : DataW.trod enc P W 0 (fun _ => true) true fuel t [v] = some x) :
    ∃ r : El, v = .slice r.A r.d.length r.c ∧ ElOk W r := by
  rcases open_ints ht he hc hf with ⟨hcs, hx⟩ | ⟨a, len, cap, zs, hcs, _, hl, hm, hz, hx, hcell, hwz⟩
  · injection hcs with hcs
    subst hcs
    exact ⟨⟨none, [], 0⟩, rfl, .inl rfl, (fun n hn => by cases hn), fun _ => rfl, by simp, by simp⟩
  · injection hcs with hcs
    subst hcs
    simp only [if_true] at hz
    have hlen : (zs.take len).length = len := by simp; omega
    refine ⟨⟨some a, zs.take len, cap⟩, by simp only; rw [hlen], ?_, (fun n hn => bounds_u8 (hwz n (List.mem_of_mem_take hn))), (fun h => by cases h), (by simp only; omega), hm⟩
    by_cases h0 : len = 0
    · left
      subst h0
      simp
    · right
      obtain ⟨b, off, rfl, hcl⟩ := ints_at hcell (by omega)
      refine ⟨b, off, rfl, block_lt (hcl 0 (by omega)), fun i hi => ?_⟩
      simp only at hi
      rw [hlen] at hi
      rw [hcl i (by omega)]
      simp [hi]
theorem open_rows {H : Type} {enc : TypeId × Value → H} {P : Program} {W : World} {base : Nat} {t s e : TypeId} {v : Value} {d : DataW H} {p : List MemPlace}
    (ht : P.underlying t = some (.slice s)) (hs : P.underlying s = some (.slice e)) (he : P.underlying e = some (.int .u8)) (hc : P.cellsOf e = 1) (hcs : P.cellsOf s = 1) (hv : Value.okWide P W .any base t v) (h : DataW.Trod enc P W 0 (fun _ => true) true t v d p) :
    ∃ A rs cap, v = .slice A rs.length cap ∧ RdL W A rs := by
  obtain ⟨a0, len0, cap0, rfl⟩ := okWide_slice ht hv
  obtain ⟨fuel, hf⟩ := h
  rcases open_slice1 ht hcs hf with ⟨hcs1, hx⟩ | ⟨a, len, cap, m, n, V, D, Pl, hcs1, _, hl, hm, hmm, hx, hV⟩
  · simp [Value.cells] at hcs1
    obtain ⟨rfl, rfl, rfl⟩ := hcs1
    exact ⟨none, [], 0, rfl, .inl rfl⟩
  · simp [Value.cells] at hcs1
    obtain ⟨rfl, rfl, rfl⟩ := hcs1
    simp only [if_true] at hmm
    obtain ⟨O, hO⟩ := choose_lt (α := El) (n := m) (p := fun i r => W.cell? (a.add i) = some (.slice r.A r.d.length r.c) ∧ ElOk W r) (fun i hi => by
      obtain ⟨h1, h2⟩ := hV i hi
      obtain ⟨r, hr, hok⟩ := open_el hs he hc h2
      exact ⟨r, by rw [h1, hr], hok⟩)
    refine ⟨some a, (List.range len0).map O, cap0, by simp, ?_⟩
    by_cases h0 : len0 = 0
    · left
      subst h0
      rfl
    · right
      obtain ⟨b, off, spot⟩ := a
      have hspot : spot = none := by simpa [Addr.add] using World.cell?_spot (hO 0 (by omega)).1
      subst hspot
      simp only [Go.WideShapes.add_plain] at hO
      refine ⟨b, off, rfl, block_lt (hO 0 (by omega)).1, fun i r hi => ?_⟩
      have hil : i < len0 := by
        have := (List.getElem?_eq_some_iff.1 hi).1
        simpa using this
      have : O i = r := by
        rw [List.getElem?_map, List.getElem?_range hil] at hi
        simpa using hi
      subst this
      exact hO i (by omega)
end Go.Proofs.Ytanbbomdidefjaa
