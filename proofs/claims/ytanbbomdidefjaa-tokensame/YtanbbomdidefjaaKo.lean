/- A list of attributes that comes in, opened; a token by value. -/
import Derived.Test.YtanbbomdidefjaaKd
import Derived.Test.YtanbbomdidefjaaOp
import Derived.Deep.Slices
import Derived.Lib.SmallJoins
namespace Go.Proofs.Ytanbbomdidefjaa
open Go.RowKit Go.WideShapes Go.ChangeShapes Go.Deep Go.Joins

theorem open_attrs0 {H : Type} {enc : TypeId × Value → H} {P : Program} {W : World} {t e ts : TypeId} {f0 f1 : Field} {v : Value} {x : DataW H × List MemPlace} {fuel : Nat}
    (ht : P.underlying t = some (.slice e)) (he : P.underlying e = some (.struct #[f0, f1])) (ce : P.cellsOf e = 2)
    (t0 : f0.type = ts) (t1 : f1.type = ts) (o0 : f0.offset = 0) (o1 : f1.offset = 1) (cs : P.cellsOf ts = 1) (us : P.underlying ts = some .string)
    (hf : DataW.trod enc P W 0 (fun _ => true) true fuel t [v] = some x) :
    ∃ A xs cap, v = .slice A xs.length cap ∧ RdA W A xs ∧ Sz xs ∧ xs.length ≤ cap ∧ cap ≤ maxLen ∧ (A = none → xs = []) ∧ (A = none → cap = 0) := by
  rcases open_slice ht hf with ⟨hcs, hx⟩ | ⟨a, len, cap, m, n, D, Pl, hcs, _, hl, hm, hmm, hx, hel⟩
  · simp at hcs
    subst hcs
    exact ⟨none, [], 0, rfl, .inl rfl, fun x hx => (by cases hx), by simp, by simp, fun _ => rfl, fun _ => rfl⟩
  · simp at hcs
    subst hcs
    simp only [if_true] at hmm
    rw [hmm] at hel
    have each : ∀ i, i < cap → ∃ o : Atr, (W.cell? (a.add (i * 2)) = some (.string o.1) ∧ W.cell? (a.add (i * 2 + 1)) = some (.string o.2)) ∧ o.1.size ≤ maxLen := by
      intro i hi
      obtain ⟨cs', h1, h2⟩ := hel i hi
      rw [ce] at h1
      obtain ⟨_, hlen, hcell⟩ := World.cells?_some h1
      obtain ⟨xs, k, hk, hxy, _, hxl, hfl⟩ := DataW.trod_struct he h2
      match xs, hxl, cs', hlen with
      | [y0, y1], _, [v0, v1], _ =>
        have g0 := hfl 0 f0 rfl
        have g1 := hfl 1 f1 rfl
        rw [t0, o0, cs] at g0
        rw [t1, o1, cs] at g1
        obtain ⟨s0, e0, _, w0⟩ := DataW.trod_string us (show DataW.trod enc P W 0 _ true k ts [v0] = some y0 from g0)
        obtain ⟨s1, e1, _, w1⟩ := DataW.trod_string us (show DataW.trod enc P W 0 _ true k ts [v1] = some y1 from g1)
        injection e0 with e0
        injection e1 with e1
        subst e0 e1
        have q : ∀ j, j < 2 → _ := hcell
        simp only [add_add] at q
        exact ⟨(s0, s1), ⟨q 0 (by omega), q 1 (by omega)⟩, w0⟩
    obtain ⟨O, hO⟩ := choose_lt each
    refine ⟨some a, (List.range len).map O, cap, by simp, ?_, ?_, by simpa using hl, hm, fun h => (by cases h), fun h => (by cases h)⟩
    · by_cases h0 : len = 0
      · left
        subst h0
        rfl
      · right
        obtain ⟨b, off, spot⟩ := a
        have hspot : spot = none := by simpa [Addr.add] using World.cell?_spot (hO 0 (by omega)).1.1
        subst hspot
        simp only [Go.WideShapes.add_plain] at hO
        refine ⟨b, off, rfl, block_lt (hO 0 (by omega)).1.1, fun i o hi => ?_⟩
        have hil : i < len := by
          have := (List.getElem?_eq_some_iff.1 hi).1
          simpa using this
        have : O i = o := by
          rw [List.getElem?_map, List.getElem?_range hil] at hi
          simpa using hi
        subst this
        obtain ⟨⟨q0, q1⟩, hk⟩ := hO i (by omega)
        exact ⟨q0, by rw [Nat.add_assoc]; exact q1⟩
    · intro x hx
      simp only [List.mem_map, List.mem_range] at hx
      obtain ⟨i, hi, rfl⟩ := hx
      exact (hO i (by omega)).2
theorem open_attrs {H : Type} {enc : TypeId × Value → H} {P : Program} {W : World} {base : Nat} {t e ts : TypeId} {f0 f1 : Field} {v : Value} {d : DataW H} {p : List MemPlace}
    (ht : P.underlying t = some (.slice e)) (he : P.underlying e = some (.struct #[f0, f1])) (ce : P.cellsOf e = 2)
    (t0 : f0.type = ts) (t1 : f1.type = ts) (o0 : f0.offset = 0) (o1 : f1.offset = 1) (cs : P.cellsOf ts = 1) (us : P.underlying ts = some .string)
    (hv : Value.okWide P W .any base t v) (h : DataW.Trod enc P W 0 (fun _ => true) true t v d p) :
    ∃ A xs cap, v = .slice A xs.length cap ∧ RdA W A xs ∧ Sz xs ∧ xs.length ≤ cap ∧ cap ≤ maxLen ∧ (A = none → xs = []) ∧ (A = none → cap = 0) := by
  obtain ⟨a0, len, cap, rfl⟩ := okWide_slice ht hv
  obtain ⟨fuel, hf⟩ := h
  simp only [Value.cells] at hf
  exact open_attrs0 ht he ce t0 t1 o0 o1 cs us hf

end Go.Proofs.Ytanbbomdidefjaa
