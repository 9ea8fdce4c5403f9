/- A list of operations that comes in, opened: a number, a text, a number each. -/
import Derived.Test.YtfkbjniodomdjaaDoorQk
import Derived.Test.YtfkbjniodomdjaaDoorOp
import Derived.Deep.Slices
import Derived.Lib.SmallJoins
namespace Go.Proofs.YtfkbjniodomdjaaDoor
open Go.RowKit Go.WideShapes Go.ChangeShapes Go.Deep Go.Joins

theorem open_pops {H : Type} {enc : TypeId × Value → H} {P : Program} {W : World} {base : Nat} {t e ti ts : TypeId} {f0 f1 f2 : Field} {v : Value} {d : DataW H} {p : List MemPlace}
    (ht : P.underlying t = some (.slice e)) (he : P.underlying e = some (.struct #[f0, f1, f2])) (ce : P.cellsOf e = 3)
    (t0 : f0.type = ti) (t1 : f1.type = ts) (t2 : f2.type = ti) (o0 : f0.offset = 0) (o1 : f1.offset = 1) (o2 : f2.offset = 2)
    (ci : P.cellsOf ti = 1) (cs : P.cellsOf ts = 1) (ui : P.underlying ti = some (.int .i64)) (us : P.underlying ts = some .string)
    (hv : Value.okWide P W .any base t v) (h : DataW.Trod enc P W 0 (fun _ => true) true t v d p) :
    ∃ A os cap, v = .slice A os.length cap ∧ RdP W A os ∧ os.length ≤ cap ∧ cap ≤ maxLen := by
  obtain ⟨a0, len, cap, rfl⟩ := okWide_slice ht hv
  obtain ⟨fuel, hf⟩ := h
  rcases open_slice ht hf with ⟨hcs, hx⟩ | ⟨a, len', cap', m, n, D, Pl, hcs, _, hl, hm, hmm, hx, hel⟩
  · simp [Value.cells] at hcs
    obtain ⟨rfl, rfl, rfl⟩ := hcs
    exact ⟨none, [], 0, rfl, .inl rfl, by simp, by simp⟩
  · simp [Value.cells] at hcs
    obtain ⟨rfl, rfl, rfl⟩ := hcs
    simp only [if_true] at hmm
    rw [hmm] at hel
    have each : ∀ i, i < cap → ∃ o : OpP, (W.cell? (a.add (i * 3)) = some (.int .i64 o.k) ∧ W.cell? (a.add (i * 3 + 1)) = some (.string o.s) ∧ W.cell? (a.add (i * 3 + 2)) = some (.int .i64 o.n)) ∧ o.s.size ≤ maxLen := by
      intro i hi
      obtain ⟨cs', h1, h2⟩ := hel i hi
      rw [ce] at h1
      obtain ⟨_, hlen, hcell⟩ := World.cells?_some h1
      obtain ⟨xs, k, hk, hxy, _, hxl, hfl⟩ := DataW.trod_struct he h2
      match xs, hxl, cs', hlen with
      | [y0, y1, y2], _, [v0, v1, v2], _ =>
        have g0 := hfl 0 f0 rfl
        have g1 := hfl 1 f1 rfl
        have g2 := hfl 2 f2 rfl
        rw [t0, o0, ci] at g0
        rw [t1, o1, cs] at g1
        rw [t2, o2, ci] at g2
        obtain ⟨n0, e0, _, w0⟩ := DataW.trod_int ui (show DataW.trod enc P W 0 _ true k ti [v0] = some y0 from g0)
        obtain ⟨s1, e1, _, w1⟩ := DataW.trod_string us (show DataW.trod enc P W 0 _ true k ts [v1] = some y1 from g1)
        obtain ⟨n2, e2, _, w2⟩ := DataW.trod_int ui (show DataW.trod enc P W 0 _ true k ti [v2] = some y2 from g2)
        injection e0 with e0
        injection e1 with e1
        injection e2 with e2
        subst e0 e1 e2
        have q : ∀ j, j < 3 → _ := hcell
        simp only [add_add] at q
        exact ⟨⟨n0, s1, n2⟩, ⟨q 0 (by omega), q 1 (by omega), q 2 (by omega)⟩, w1⟩
    obtain ⟨O, hO⟩ := choose_lt each
    refine ⟨some a, (List.range len).map O, cap, by simp, ?_, by simpa using hl, hm⟩
    by_cases h0 : len = 0
    · left
      subst h0
      rfl
    · right
      obtain ⟨b, off, spot⟩ := a
      have hspot : spot = none := by simpa [Addr.add] using World.cell?_spot (hO 0 (by omega)).1.1
      subst hspot
      simp only [Go.WideShapes.add_plain] at hO
      refine ⟨b, off, rfl, block_lt (hO 0 (by omega)).1.1, fun i o hi => ?_⟩
      have hil : i < len := by
        have := (List.getElem?_eq_some_iff.1 hi).1
        simpa using this
      have : O i = o := by
        rw [List.getElem?_map, List.getElem?_range hil] at hi
        simpa using hi
      subst this
      obtain ⟨⟨q0, q1, q2⟩, hk⟩ := hO i (by omega)
      exact ⟨q0, by rw [Nat.add_assoc]; exact q1, by rw [Nat.add_assoc]; exact q2, hk⟩
end Go.Proofs.YtfkbjniodomdjaaDoor
