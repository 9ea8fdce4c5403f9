/- A token that comes in by value, opened, with the lengths of its texts. -/
import Derived.Test.YtanbbomdidefjaaKv
import Derived.SizedLaws
namespace Go.Proofs.Ytanbbomdidefjaa
open Go.RowKit Go.WideShapes Go.ChangeShapes Go.Deep Go.Joins

theorem weightsAll_mem {H : Type} {P : Program} {e : TypeId} {d : DataW H} : ∀ {elems : List (DataW H)}, d ∈ elems → ∀ {m : Nat}, m ∈ d.weights P e → m ∈ DataW.weightsAll P e elems
  | x :: r, hd, m, hm => by
    simp only [DataW.weightsAll]
    rcases List.mem_cons.1 hd with h | h
    · rw [← h]; exact List.mem_append_left _ hm
    · exact List.mem_append_right _ (weightsAll_mem h hm)
theorem open_attrs1 {H : Type} {enc : TypeId × Value → H} {P : Program} {W : World} {t e ts : TypeId} {f0 f1 : Field} {v : Value} {x : DataW H × List MemPlace} {fuel : Nat}
    (ht : P.underlying t = some (.slice e)) (he : P.underlying e = some (.struct #[f0, f1])) (ce : P.cellsOf e = 2)
    (t0 : f0.type = ts) (t1 : f1.type = ts) (o0 : f0.offset = 0) (o1 : f1.offset = 1) (cs : P.cellsOf ts = 1) (us : P.underlying ts = some .string)
    (hf : DataW.trod enc P W 0 (fun _ => true) true fuel t [v] = some x) :
    ∃ A xs cap, v = .slice A xs.length cap ∧ RdA W A xs ∧ Sz xs ∧ xs.length ≤ cap ∧ cap ≤ maxLen ∧ (A = none → xs = []) ∧ (A = none → cap = 0) ∧ ((∀ m ∈ x.1.weights P t, m ≤ reachBytes) → ∀ y ∈ xs, y.2.size ≤ reachBytes) := by
  rcases open_slice ht hf with ⟨hcs, hx⟩ | ⟨a, len, cap, m, n, D, Pl, hcs, _, hl, hm, hmm, hx, hel⟩
  · simp at hcs
    subst hcs
    exact ⟨none, [], 0, rfl, .inl rfl, fun x hx => (by cases hx), by simp, by simp, fun _ => rfl, fun _ => rfl, fun _ y hy => (by cases hy)⟩
  · simp at hcs
    subst hcs
    simp only [if_true] at hmm
    rw [hmm] at hel
    have each : ∀ i, i < cap → ∃ o : Atr, (W.cell? (a.add (i * 2)) = some (.string o.1) ∧ W.cell? (a.add (i * 2 + 1)) = some (.string o.2)) ∧ o.1.size ≤ maxLen ∧ D i = .agg [.lit (.string o.1.data.toList), .lit (.string o.2.data.toList)] := by
      intro i hi
      obtain ⟨cs', h1, h2⟩ := hel i hi
      rw [ce] at h1
      obtain ⟨_, hlen, hcell⟩ := World.cells?_some h1
      obtain ⟨xs, k, hk, hxy, _, hxl, hfl⟩ := DataW.trod_struct he h2
      match xs, hxl, cs', hlen with
      | [y0, y1], _, [v0, v1], _ =>
        have g0 := hfl 0 f0 rfl
        have g1 := hfl 1 f1 rfl
        rw [t0, o0, cs] at g0
        rw [t1, o1, cs] at g1
        obtain ⟨s0, e0, x0, w0⟩ := DataW.trod_string us (show DataW.trod enc P W 0 _ true k ts [v0] = some y0 from g0)
        obtain ⟨s1, e1, x1, w1⟩ := DataW.trod_string us (show DataW.trod enc P W 0 _ true k ts [v1] = some y1 from g1)
        injection e0 with e0
        injection e1 with e1
        subst e0 e1
        have q : ∀ j, j < 2 → _ := hcell
        simp only [add_add] at q
        exact ⟨(s0, s1), ⟨q 0 (by omega), q 1 (by omega)⟩, w0, by
          simp only [Prod.mk.injEq] at hxy
          rw [hxy.1, x0, x1]
          rfl⟩
    obtain ⟨O, hO⟩ := choose_lt each
    refine ⟨some a, (List.range len).map O, cap, by simp, ?_, ?_, by simpa using hl, hm, fun h => (by cases h), fun h => (by cases h), ?_⟩
    · by_cases h0 : len = 0
      · left
        subst h0
        rfl
      · right
        obtain ⟨b, off, spot⟩ := a
        have hspot : spot = none := by simpa [Addr.add] using World.cell?_spot (hO 0 (by omega)).1.1
        subst hspot
        simp only [Go.WideShapes.add_plain] at hO
        refine ⟨b, off, rfl, block_lt (hO 0 (by omega)).1.1, fun i o hi => ?_⟩
        have hil : i < len := by
          have := (List.getElem?_eq_some_iff.1 hi).1
          simpa using this
        have : O i = o := by
          rw [List.getElem?_map, List.getElem?_range hil] at hi
          simpa using hi
        subst this
        obtain ⟨⟨q0, q1⟩, hk, _⟩ := hO i (by omega)
        exact ⟨q0, by rw [Nat.add_assoc]; exact q1⟩
    · intro x hx
      simp only [List.mem_map, List.mem_range] at hx
      obtain ⟨i, hi, rfl⟩ := hx
      exact (hO i (by omega)).2.1
    · intro hw y hy
      simp only [List.mem_map, List.mem_range] at hy
      obtain ⟨i, hi, rfl⟩ := hy
      have hD := (hO i (by omega)).2.2
      have := hw (O i).2.data.toList.length (by
        rw [hx]
        simp only [DataW.weights, ht]
        refine List.mem_cons_of_mem _ (List.mem_append_left _ ?_)
        refine weightsAll_mem (d := D i) (List.mem_map.2 ⟨i, List.mem_range.2 hi, rfl⟩) ?_
        rw [hD]
        simp [DataW.weights, he, DataW.weightsEach])
      simpa using this
theorem open_tok1 {H : Type} {enc : TypeId × Value → H} {P : Program} {w : World} {b0 : Nat} {t ti ts tb ta e : TypeId} {f0 f1 f2 f3 f4 f5 f6 f7 f8 f9 g0 g1 : Field} {v : Value} {d : DataW H} {p : List MemPlace}
    (hs : P.underlying t = some (.struct #[f0, f1, f2, f3, f4, f5, f6, f7, f8, f9])) (hC : P.cellsOf t = 10)
    (t0 : f0.type = ti) (t1 : f1.type = ts) (t2 : f2.type = ta) (t3 : f3.type = tb) (t4 : f4.type = ts) (t5 : f5.type = ts) (t6 : f6.type = ts) (t7 : f7.type = tb) (t8 : f8.type = tb) (t9 : f9.type = tb)
    (o0 : f0.offset = 0) (o1 : f1.offset = 1) (o2 : f2.offset = 2) (o3 : f3.offset = 3) (o4 : f4.offset = 4) (o5 : f5.offset = 5) (o6 : f6.offset = 6) (o7 : f7.offset = 7) (o8 : f8.offset = 8) (o9 : f9.offset = 9)
    (ci : P.cellsOf ti = 1) (cs : P.cellsOf ts = 1) (cb : P.cellsOf tb = 1) (ca : P.cellsOf ta = 1) (ce : P.cellsOf e = 2)
    (ui : P.underlying ti = some (.int .i64)) (us : P.underlying ts = some .string) (ub : P.underlying tb = some .bool) (ua : P.underlying ta = some (.slice e)) (ue : P.underlying e = some (.struct #[g0, g1]))
    (q0 : g0.type = ts) (q1 : g1.type = ts) (r0 : g0.offset = 0) (r1 : g1.offset = 1)
    (hv : Value.okWide P w .any b0 t v) (h : DataW.Trod enc P w 0 (fun _ => true) true t v d p) :
    ∃ (k : Int) (n : ByteArray) (A : Option Addr) (xs : List Atr) (cap : Nat) (sf : Bool) (da pu sy : ByteArray) (hp hy qk : Bool),
      v = .agg #[.int .i64 k, .string n, .slice A xs.length cap, .bool sf, .string da, .string pu, .string sy, .bool hp, .bool hy, .bool qk] ∧ (Lit.int .i64 k).wf = true ∧
      n.size ≤ maxLen ∧ da.size ≤ maxLen ∧ pu.size ≤ maxLen ∧ sy.size ≤ maxLen ∧ RdA w A xs ∧ Sz xs ∧ xs.length ≤ cap ∧ cap ≤ maxLen ∧ (A = none → xs = []) ∧ (A = none → cap = 0) ∧
      ((∀ m ∈ d.weights P t, m ≤ reachBytes) → n.size ≤ reachBytes ∧ da.size ≤ reachBytes ∧ pu.size ≤ reachBytes ∧ sy.size ≤ reachBytes ∧ ∀ y ∈ xs, y.2.size ≤ reachBytes) := by
  obtain ⟨cs0, rfl, hsz⟩ := okWide_struct hs hv
  obtain ⟨l⟩ := cs0
  match l, hsz.trans hC with
  | [v0, v1, v2, v3, v4, v5, v6, v7, v8, v9], _ =>
    obtain ⟨fuel, hf⟩ := h
    obtain ⟨xs, m, _, hx, _, hlen, hg⟩ := DataW.trod_struct hs hf
    match xs, hlen with
    | [y0, y1, y2, y3, y4, y5, y6, y7, y8, y9], _ =>
      have a0 := hg 0 f0 rfl
      have a1 := hg 1 f1 rfl
      have a2 := hg 2 f2 rfl
      have a3 := hg 3 f3 rfl
      have a4 := hg 4 f4 rfl
      have a5 := hg 5 f5 rfl
      have a6 := hg 6 f6 rfl
      have a7 := hg 7 f7 rfl
      have a8 := hg 8 f8 rfl
      have a9 := hg 9 f9 rfl
      rw [t0, o0, ci] at a0
      rw [t1, o1, cs] at a1
      rw [t2, o2, ca] at a2
      rw [t3, o3, cb] at a3
      rw [t4, o4, cs] at a4
      rw [t5, o5, cs] at a5
      rw [t6, o6, cs] at a6
      rw [t7, o7, cb] at a7
      rw [t8, o8, cb] at a8
      rw [t9, o9, cb] at a9
      obtain ⟨k, e0, _, w0⟩ := DataW.trod_int ui (show DataW.trod enc P w 0 _ true m ti [v0] = some y0 from a0)
      obtain ⟨n, e1, x1, w1⟩ := DataW.trod_string us (show DataW.trod enc P w 0 _ true m ts [v1] = some y1 from a1)
      obtain ⟨A, zs, cap, e2, hrd, hz, hc1, hc2, hn, hn2, hws⟩ := open_attrs1 ua ue ce q0 q1 r0 r1 cs us (show DataW.trod enc P w 0 _ true m ta [v2] = some y2 from a2)
      obtain ⟨sf, e3, _⟩ := DataW.trod_bool ub (show DataW.trod enc P w 0 _ true m tb [v3] = some y3 from a3)
      obtain ⟨da, e4, x4, w4⟩ := DataW.trod_string us (show DataW.trod enc P w 0 _ true m ts [v4] = some y4 from a4)
      obtain ⟨pu, e5, x5, w5⟩ := DataW.trod_string us (show DataW.trod enc P w 0 _ true m ts [v5] = some y5 from a5)
      obtain ⟨sy, e6, x6, w6⟩ := DataW.trod_string us (show DataW.trod enc P w 0 _ true m ts [v6] = some y6 from a6)
      obtain ⟨hp, e7, _⟩ := DataW.trod_bool ub (show DataW.trod enc P w 0 _ true m tb [v7] = some y7 from a7)
      obtain ⟨hy, e8, _⟩ := DataW.trod_bool ub (show DataW.trod enc P w 0 _ true m tb [v8] = some y8 from a8)
      obtain ⟨qk, e9, _⟩ := DataW.trod_bool ub (show DataW.trod enc P w 0 _ true m tb [v9] = some y9 from a9)
      injection e0 with e0
      injection e1 with e1
      injection e3 with e3
      injection e4 with e4
      injection e5 with e5
      injection e6 with e6
      injection e7 with e7
      injection e8 with e8
      injection e9 with e9
      subst e0 e1 e2 e3 e4 e5 e6 e7 e8 e9
      refine ⟨k, n, A, zs, cap, sf, da, pu, sy, hp, hy, qk, rfl, w0, w1, w4, w5, w6, hrd, hz, hc1, hc2, hn, hn2, fun hw => ?_⟩
      simp only [Prod.mk.injEq] at hx
      have hd : d.weights P t = DataW.weightsEach P [ti, ts, ta, tb, ts, ts, ts, tb, tb, tb] [y0.1, y1.1, y2.1, y3.1, y4.1, y5.1, y6.1, y7.1, y8.1, y9.1] := by
        rw [hx.1]
        simp only [DataW.weights, hs]
        simp [t0, t1, t2, t3, t4, t5, t6, t7, t8, t9]
      rw [hd] at hw
      have g1 := hw n.data.toList.length (by simp [DataW.weightsEach, x1, DataW.weights])
      have g4 := hw da.data.toList.length (by simp [DataW.weightsEach, x4, DataW.weights])
      have g5 := hw pu.data.toList.length (by simp [DataW.weightsEach, x5, DataW.weights])
      have g6 := hw sy.data.toList.length (by simp [DataW.weightsEach, x6, DataW.weights])
      refine ⟨by simpa using g1, by simpa using g4, by simpa using g5, by simpa using g6, hws fun m hm => hw m ?_⟩
      simp only [DataW.weightsEach]
      refine List.mem_append_right _ (List.mem_append_right _ (List.mem_append_left _ hm))

end Go.Proofs.Ytanbbomdidefjaa
