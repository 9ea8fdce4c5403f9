/- A slice of steps that comes in (five numbers, a text), opened. -/
import Derived.Test.YtojjdnfkcigdbaaJoin24
import Derived.Deep.Slices
namespace Go.Proofs.Ytojjdnfkcigdbaa
open Go.RowKit Go.WideShapes Go.ChangeShapes Go.Deep

instance : Inhabited OpD := ⟨⟨0, 0, 0, 0, 0, ⟨#[]⟩⟩⟩
theorem open_steps {H : Type} {enc : TypeId × Value → H} {P : Program} {W : World} {base : Nat} {t e ti ts : TypeId} {f0 f1 f2 f3 f4 f5 : Field} {v : Value} {d : DataW H} {p : List MemPlace}
    (ht : P.underlying t = some (.slice e)) (he : P.underlying e = some (.struct #[f0, f1, f2, f3, f4, f5])) (ce : P.cellsOf e = 6)
    (t0 : f0.type = ti) (t1 : f1.type = ti) (t2 : f2.type = ti) (t3 : f3.type = ti) (t4 : f4.type = ti) (t5 : f5.type = ts)
    (o0 : f0.offset = 0) (o1 : f1.offset = 1) (o2 : f2.offset = 2) (o3 : f3.offset = 3) (o4 : f4.offset = 4) (o5 : f5.offset = 5)
    (ci : P.cellsOf ti = 1) (cs : P.cellsOf ts = 1)
    (ui : P.underlying ti = some (.int .i64)) (us : P.underlying ts = some .string)
    (hv : Value.okWide P W .any base t v) (h : DataW.Trod enc P W 0 (fun _ => true) true t v d p) :
    ∃ A os cap, v = .slice A os.length cap ∧ RdO W A os := by
  obtain ⟨a0, len, cap, rfl⟩ := okWide_slice ht hv
  obtain ⟨fuel, hf⟩ := h
  rcases open_slice ht hf with ⟨hcs, hx⟩ | ⟨a, len', cap', m, n, D, Pl, hcs, _, hl, hm, hmm, hx, hel⟩
  · simp [Value.cells] at hcs
    obtain ⟨rfl, rfl, rfl⟩ := hcs
    exact ⟨none, [], 0, rfl, .inl rfl⟩
  · simp [Value.cells] at hcs
    obtain ⟨rfl, rfl, rfl⟩ := hcs
    simp only [if_true] at hmm
    rw [hmm] at hel
    have each : ∀ i, i < cap → ∃ o : OpD, W.cell? (a.add (i * 6)) = some (.int .i64 o.k) ∧ W.cell? (a.add (i * 6 + 1)) = some (.int .i64 o.a) ∧ W.cell? (a.add (i * 6 + 2)) = some (.int .i64 o.b) ∧ W.cell? (a.add (i * 6 + 3)) = some (.int .i64 o.c) ∧ W.cell? (a.add (i * 6 + 4)) = some (.int .i64 o.n) ∧ W.cell? (a.add (i * 6 + 5)) = some (.string o.s) := by
      intro i hi
      obtain ⟨cs', h1, h2⟩ := hel i hi
      rw [ce] at h1
      obtain ⟨_, hlen, hcell⟩ := World.cells?_some h1
      obtain ⟨xs, k, hk, hxy, _, hxl, hfl⟩ := DataW.trod_struct he h2
      match xs, hxl, cs', hlen with
      | [y0, y1, y2, y3, y4, y5], _, [v0, v1, v2, v3, v4, v5], _ =>
        have g0 := hfl 0 f0 rfl
        have g1 := hfl 1 f1 rfl
        have g2 := hfl 2 f2 rfl
        have g3 := hfl 3 f3 rfl
        have g4 := hfl 4 f4 rfl
        have g5 := hfl 5 f5 rfl
        rw [t0, o0, ci] at g0
        rw [t1, o1, ci] at g1
        rw [t2, o2, ci] at g2
        rw [t3, o3, ci] at g3
        rw [t4, o4, ci] at g4
        rw [t5, o5, cs] at g5
        obtain ⟨n0, e0, _, w0⟩ := DataW.trod_int ui (show DataW.trod enc P W 0 _ true k ti [v0] = some y0 from g0)
        obtain ⟨n1, e1, _, w1⟩ := DataW.trod_int ui (show DataW.trod enc P W 0 _ true k ti [v1] = some y1 from g1)
        obtain ⟨n2, e2, _, w2⟩ := DataW.trod_int ui (show DataW.trod enc P W 0 _ true k ti [v2] = some y2 from g2)
        obtain ⟨n3, e3, _, w3⟩ := DataW.trod_int ui (show DataW.trod enc P W 0 _ true k ti [v3] = some y3 from g3)
        obtain ⟨n4, e4, _, w4⟩ := DataW.trod_int ui (show DataW.trod enc P W 0 _ true k ti [v4] = some y4 from g4)
        obtain ⟨s5, e5, _, w5⟩ := DataW.trod_string us (show DataW.trod enc P W 0 _ true k ts [v5] = some y5 from g5)
        injection e0 with e0
        injection e1 with e1
        injection e2 with e2
        injection e3 with e3
        injection e4 with e4
        injection e5 with e5
        subst e0 e1 e2 e3 e4 e5
        have q : ∀ j, j < 6 → _ := hcell
        simp only [add_add] at q
        exact ⟨⟨n0, n1, n2, n3, n4, s5⟩, q 0 (by omega), q 1 (by omega), q 2 (by omega), q 3 (by omega), q 4 (by omega), q 5 (by omega)⟩
    obtain ⟨O, hO⟩ := choose_lt each
    refine ⟨some a, (List.range len).map O, cap, by simp, ?_⟩
    by_cases h0 : len = 0
    · left
      subst h0
      rfl
    · right
      obtain ⟨b, off, spot⟩ := a
      have hspot : spot = none := by simpa [Addr.add] using World.cell?_spot (hO 0 (by omega)).1
      subst hspot
      simp only [Go.WideShapes.add_plain] at hO
      refine ⟨b, off, rfl, block_lt (hO 0 (by omega)).1, fun i o hi => ?_⟩
      have hil : i < len := by
        have := (List.getElem?_eq_some_iff.1 hi).1
        simpa using this
      have : O i = o := by
        rw [List.getElem?_map, List.getElem?_range hil] at hi
        simpa using hi
      subst this
      obtain ⟨q0, q1, q2, q3, q4, q5⟩ := hO i (by omega)
      exact ⟨q0, by rw [Nat.add_assoc]; exact q1, by rw [Nat.add_assoc]; exact q2, by rw [Nat.add_assoc]; exact q3, by rw [Nat.add_assoc]; exact q4, by rw [Nat.add_assoc]; exact q5⟩
end Go.Proofs.Ytojjdnfkcigdbaa
