/- A node that comes in by value, opened, with the lengths of its texts; attributes that come in. -/
import Derived.Test.YtodlcfhkiilpgaaZA
import Derived.Test.YtodlcfhkiilpgaaPo
import Derived.ProofKit
import Derived.OpenShut
import Derived.Test.YtodlcfhkiilpgaaJm
import Derived.Deep.Slices
import Derived.Lib.SmallJoins
import Derived.SizedLaws
namespace Go.Proofs.Ytodlcfhkiilpgaa
open Go.RowKit Go.WideShapes Go.ChangeShapes Go.Deep Go.Joins

def Sz (xs : List Atr) : Prop := ∀ x ∈ xs, x.1.size ≤ maxLen
theorem open_attrs0 {H : Type} {enc : TypeId × Value → H} {P : Program} {W : World} {t e ts : TypeId} {f0 f1 : Field} {v : Value} {x : DataW H × List MemPlace} {fuel : Nat}
    (ht : P.underlying t = some (.slice e)) (he : P.underlying e = some (.struct #[f0, f1])) (ce : P.cellsOf e = 2)
    (t0 : f0.type = ts) (t1 : f1.type = ts) (o0 : f0.offset = 0) (o1 : f1.offset = 1) (cs : P.cellsOf ts = 1) (us : P.underlying ts = some .string)
    (hf : DataW.trod enc P W 0 (fun _ => true) true fuel t [v] = some x) :
    ∃ A xs cap, v = .slice A xs.length cap ∧ RdA W A xs ∧ Sz xs ∧ xs.length ≤ cap ∧ cap ≤ maxLen ∧ (A = none → xs = []) ∧ (A = none → cap = 0) := by
  rcases open_slice ht hf with ⟨hcs, hx⟩ | ⟨a, len, cap, m, n, D, Pl, hcs, _, hl, hm, hmm, hx, hel⟩
  · simp at hcs
    subst hcs
    exact ⟨none, [], 0, rfl, .inl rfl, fun x hx => (by cases hx), by simp, by simp, fun _ => rfl, fun _ => rfl⟩
  · simp at hcs
    subst hcs
    simp only [if_true] at hmm
    rw [hmm] at hel
    have each : ∀ i, i < cap → ∃ o : Atr, (W.cell? (a.add (i * 2)) = some (.string o.1) ∧ W.cell? (a.add (i * 2 + 1)) = some (.string o.2)) ∧ o.1.size ≤ maxLen := by
      intro i hi
      obtain ⟨cs', h1, h2⟩ := hel i hi
      rw [ce] at h1
      obtain ⟨_, hlen, hcell⟩ := World.cells?_some h1
      obtain ⟨xs, k, hk, hxy, _, hxl, hfl⟩ := DataW.trod_struct he h2
      match xs, hxl, cs', hlen with
      | [y0, y1], _, [v0, v1], _ =>
        have g0 := hfl 0 f0 rfl
        have g1 := hfl 1 f1 rfl
        rw [t0, o0, cs] at g0
        rw [t1, o1, cs] at g1
        obtain ⟨s0, e0, _, w0⟩ := DataW.trod_string us (show DataW.trod enc P W 0 _ true k ts [v0] = some y0 from g0)
        obtain ⟨s1, e1, _, w1⟩ := DataW.trod_string us (show DataW.trod enc P W 0 _ true k ts [v1] = some y1 from g1)
        injection e0 with e0
        injection e1 with e1
        subst e0 e1
        have q : ∀ j, j < 2 → _ := hcell
        simp only [add_add] at q
        exact ⟨(s0, s1), ⟨q 0 (by omega), q 1 (by omega)⟩, w0⟩
    obtain ⟨O, hO⟩ := choose_lt each
    refine ⟨some a, (List.range len).map O, cap, by simp, ?_, ?_, by simpa using hl, hm, fun h => (by cases h), fun h => (by cases h)⟩
    · by_cases h0 : len = 0
      · left
        subst h0
        rfl
      · right
        obtain ⟨b, off, spot⟩ := a
        have hspot : spot = none := by simpa [Addr.add] using World.cell?_spot (hO 0 (by omega)).1.1
        subst hspot
        simp only [Go.WideShapes.add_plain] at hO
        refine ⟨b, off, rfl, block_lt (hO 0 (by omega)).1.1, fun i o hi => ?_⟩
        have hil : i < len := by
          have := (List.getElem?_eq_some_iff.1 hi).1
          simpa using this
        have : O i = o := by
          rw [List.getElem?_map, List.getElem?_range hil] at hi
          simpa using hi
        subst this
        obtain ⟨⟨q0, q1⟩, hk⟩ := hO i (by omega)
        exact ⟨q0, by rw [Nat.add_assoc]; exact q1⟩
    · intro x hx
      simp only [List.mem_map, List.mem_range] at hx
      obtain ⟨i, hi, rfl⟩ := hx
      exact (hO i (by omega)).2

theorem open_attrs {H : Type} {enc : TypeId × Value → H} {P : Program} {W : World} {base : Nat} {t e ts : TypeId} {f0 f1 : Field} {v : Value} {d : DataW H} {p : List MemPlace}
    (ht : P.underlying t = some (.slice e)) (he : P.underlying e = some (.struct #[f0, f1])) (ce : P.cellsOf e = 2)
    (t0 : f0.type = ts) (t1 : f1.type = ts) (o0 : f0.offset = 0) (o1 : f1.offset = 1) (cs : P.cellsOf ts = 1) (us : P.underlying ts = some .string)
    (hv : Value.okWide P W .any base t v) (h : DataW.Trod enc P W 0 (fun _ => true) true t v d p) :
    ∃ A xs cap, v = .slice A xs.length cap ∧ RdA W A xs ∧ Sz xs ∧ xs.length ≤ cap ∧ cap ≤ maxLen ∧ (A = none → xs = []) ∧ (A = none → cap = 0) := by
  obtain ⟨a0, len, cap, rfl⟩ := okWide_slice ht hv
  obtain ⟨fuel, hf⟩ := h
  simp only [Value.cells] at hf
  exact open_attrs0 ht he ce t0 t1 o0 o1 cs us hf
theorem open_slice_form {H : Type} {enc : TypeId × Value → H} {P : Program} {W : World} {t e : TypeId} {v : Value} {x : DataW H × List MemPlace} {fuel : Nat} (ht : P.underlying t = some (.slice e))
    (hf : DataW.trod enc P W 0 (fun _ => true) true fuel t [v] = some x) : ∃ A n c, v = .slice A n c := by
  rcases open_slice ht hf with ⟨hcs, _⟩ | ⟨a, len, cap, m, n, D, Pl, hcs, _⟩
  · simp at hcs; exact ⟨_, _, _, hcs⟩
  · simp at hcs; exact ⟨_, _, _, hcs⟩
theorem open_node1 {H : Type} {enc : TypeId × Value → H} {P : Program} {w : World} {b0 : Nat} {t ti ts ta tk e : TypeId} {f0 f1 f2 f3 f4 f5 f6 f7 f8 f9 : Field} {v : Value} {d : DataW H} {p : List MemPlace} {ei : TypeId}
    (hs : P.underlying t = some (.struct #[f0, f1, f2, f3, f4, f5, f6, f7, f8, f9])) (hC : P.cellsOf t = 10)
    (t0 : f0.type = ti) (t1 : f1.type = ti) (t2 : f2.type = ts) (t3 : f3.type = ts) (t4 : f4.type = ta) (t5 : f5.type = ts) (t6 : f6.type = ts) (t7 : f7.type = ti) (t8 : f8.type = tk) (t9 : f9.type = ti)
    (o0 : f0.offset = 0) (o1 : f1.offset = 1) (o2 : f2.offset = 2) (o3 : f3.offset = 3) (o4 : f4.offset = 4) (o5 : f5.offset = 5) (o6 : f6.offset = 6) (o7 : f7.offset = 7) (o8 : f8.offset = 8) (o9 : f9.offset = 9)
    (ci : P.cellsOf ti = 1) (cs : P.cellsOf ts = 1) (ca : P.cellsOf ta = 1) (ck : P.cellsOf tk = 1)
    (ui : P.underlying ti = some (.int .i64)) (us : P.underlying ts = some .string) (ua : P.underlying ta = some (.slice e)) (uk : P.underlying tk = some (.slice ei))
    (hv : Value.okWide P w .any b0 t v) (h : DataW.Trod enc P w 0 (fun _ => true) true t v d p) :
    ∃ (kind space : Int) (name data : ByteArray) (sA : Option Addr) (sn sc : Nat) (pub sys : ByteArray) (up : Int) (kA : Option Addr) (kn kc : Nat) (inner : Int),
      v = .agg #[.int .i64 kind, .int .i64 space, .string name, .string data, .slice sA sn sc, .string pub, .string sys, .int .i64 up, .slice kA kn kc, .int .i64 inner] ∧
      ((∀ m ∈ d.weights P t, m ≤ reachBytes) → name.size ≤ reachBytes ∧ data.size ≤ reachBytes ∧ pub.size ≤ reachBytes ∧ sys.size ≤ reachBytes) := by
  obtain ⟨cs0, rfl, hsz⟩ := okWide_struct hs hv
  obtain ⟨l⟩ := cs0
  match l, hsz.trans hC with
  | [v0, v1, v2, v3, v4, v5, v6, v7, v8, v9], _ =>
    obtain ⟨fuel, hf⟩ := h
    obtain ⟨xs, m, _, hx, _, hlen, hg⟩ := DataW.trod_struct hs hf
    match xs, hlen with
    | [y0, y1, y2, y3, y4, y5, y6, y7, y8, y9], _ =>
      have a0 := hg 0 f0 rfl
      have a1 := hg 1 f1 rfl
      have a2 := hg 2 f2 rfl
      have a3 := hg 3 f3 rfl
      have a4 := hg 4 f4 rfl
      have a5 := hg 5 f5 rfl
      have a6 := hg 6 f6 rfl
      have a7 := hg 7 f7 rfl
      have a8 := hg 8 f8 rfl
      have a9 := hg 9 f9 rfl
      rw [t0, o0, ci] at a0
      rw [t1, o1, ci] at a1
      rw [t2, o2, cs] at a2
      rw [t3, o3, cs] at a3
      rw [t4, o4, ca] at a4
      rw [t5, o5, cs] at a5
      rw [t6, o6, cs] at a6
      rw [t7, o7, ci] at a7
      rw [t8, o8, ck] at a8
      rw [t9, o9, ci] at a9
      obtain ⟨n0, e0, _, _⟩ := DataW.trod_int ui (show DataW.trod enc P w 0 _ true m ti [v0] = some y0 from a0)
      obtain ⟨n1, e1, _, _⟩ := DataW.trod_int ui (show DataW.trod enc P w 0 _ true m ti [v1] = some y1 from a1)
      obtain ⟨s2, e2, x2, _⟩ := DataW.trod_string us (show DataW.trod enc P w 0 _ true m ts [v2] = some y2 from a2)
      obtain ⟨s3, e3, x3, _⟩ := DataW.trod_string us (show DataW.trod enc P w 0 _ true m ts [v3] = some y3 from a3)
      obtain ⟨A4, l4, c4, e4⟩ := open_slice_form ua (show DataW.trod enc P w 0 _ true m ta [v4] = some y4 from a4)
      obtain ⟨s5, e5, x5, _⟩ := DataW.trod_string us (show DataW.trod enc P w 0 _ true m ts [v5] = some y5 from a5)
      obtain ⟨s6, e6, x6, _⟩ := DataW.trod_string us (show DataW.trod enc P w 0 _ true m ts [v6] = some y6 from a6)
      obtain ⟨n7, e7, _, _⟩ := DataW.trod_int ui (show DataW.trod enc P w 0 _ true m ti [v7] = some y7 from a7)
      obtain ⟨A8, l8, c8, e8⟩ := open_slice_form uk (show DataW.trod enc P w 0 _ true m tk [v8] = some y8 from a8)
      obtain ⟨n9, e9, _, _⟩ := DataW.trod_int ui (show DataW.trod enc P w 0 _ true m ti [v9] = some y9 from a9)
      injection e0 with e0
      injection e1 with e1
      injection e2 with e2
      injection e3 with e3
      injection e5 with e5
      injection e6 with e6
      injection e7 with e7
      injection e9 with e9
      subst e0 e1 e2 e3 e4 e5 e6 e7 e8 e9
      refine ⟨n0, n1, s2, s3, A4, l4, c4, s5, s6, n7, A8, l8, c8, n9, rfl, fun hw => ?_⟩
      simp only [Prod.mk.injEq] at hx
      have hd : d.weights P t = DataW.weightsEach P [ti, ti, ts, ts, ta, ts, ts, ti, tk, ti] [y0.1, y1.1, y2.1, y3.1, y4.1, y5.1, y6.1, y7.1, y8.1, y9.1] := by
        rw [hx.1]
        simp only [DataW.weights, hs]
        simp [t0, t1, t2, t3, t4, t5, t6, t7, t8, t9]
      rw [hd] at hw
      have g2 := hw s2.data.toList.length (by simp [DataW.weightsEach, x2, DataW.weights])
      have g3 := hw s3.data.toList.length (by simp [DataW.weightsEach, x3, DataW.weights])
      have g5 := hw s5.data.toList.length (by simp [DataW.weightsEach, x5, DataW.weights])
      have g6 := hw s6.data.toList.length (by simp [DataW.weightsEach, x6, DataW.weights])
      exact ⟨by simpa using g2, by simpa using g3, by simpa using g5, by simpa using g6⟩
end Go.Proofs.Ytodlcfhkiilpgaa
