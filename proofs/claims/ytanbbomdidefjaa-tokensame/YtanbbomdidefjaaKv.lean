/- A token that comes in by value, opened; a list of texts that comes in. -/
import Derived.Test.YtanbbomdidefjaaKo
import Derived.SliceStrings
namespace Go.Proofs.Ytanbbomdidefjaa
open Go.RowKit Go.WideShapes Go.ChangeShapes Go.Deep Go.Joins

/-- the slice at A holds the texts zs -/
def RdT (w : World) (A : Option Addr) (zs : List ByteArray) : Prop :=
  zs = [] ∨ ∃ b off, A = some ⟨b, off, none⟩ ∧ b < w.heap.size ∧ ∀ (i : Nat) (x : ByteArray), zs[i]? = some x → w.cell? ⟨b, off + i, none⟩ = some (.string x)
theorem RdT.below {w w' : World} {A : Option Addr} {zs : List ByteArray} (h : RdT w A zs) (hb : Below w.heap.size w w') : RdT w' A zs := by
  rcases h with h | ⟨b, off, rfl, hl, h⟩
  · exact .inl h
  · exact .inr ⟨b, off, rfl, Nat.lt_of_lt_of_le hl hb.size, fun i x hi => (hb.cell (p := ⟨b, off + i, none⟩) hl).trans (h i x hi)⟩
theorem RdT.at_ {w : World} {A : Option Addr} {zs : List ByteArray} {i : Nat} {x : ByteArray} (h : RdT w A zs) (hx : zs[i]? = some x) : ∃ b off, A = some ⟨b, off, none⟩ ∧ b < w.heap.size ∧ w.cell? ⟨b, off + i, none⟩ = some (.string x) := by
  rcases h with rfl | ⟨b, off, hA, hb, h⟩
  · simp at hx
  · exact ⟨b, off, hA, hb, h i x hx⟩
theorem open_texts {H : Type} {enc : TypeId × Value → H} {P : Program} {W : World} {base : Nat} {t e : TypeId} {v : Value} {d : DataW H} {p : List MemPlace}
    (ht : P.underlying t = some (.slice e)) (he : P.underlying e = some .string) (hc : P.cellsOf e = 1) (hv : Value.okWide P W .any base t v) (h : DataW.Trod enc P W 0 (fun _ => true) true t v d p) :
    ∃ A zs cap, v = .slice A zs.length cap ∧ RdT W A zs ∧ zs.length ≤ cap ∧ cap ≤ maxLen := by
  obtain ⟨a0, len, cap, rfl⟩ := okWide_slice ht hv
  obtain ⟨fuel, hf⟩ := h
  rcases open_strings ht he hc hf with ⟨hcs, hx⟩ | ⟨a, len', cap', ss, hcs, _, hl, hm, hz, hx, hcell, hwz⟩
  · simp [Value.cells] at hcs
    obtain ⟨rfl, rfl, rfl⟩ := hcs
    exact ⟨none, [], 0, rfl, .inl rfl, by simp, by simp⟩
  · simp [Value.cells] at hcs
    obtain ⟨rfl, rfl, rfl⟩ := hcs
    simp only [if_true] at hz
    have hlen : (ss.take len).length = len := by simp; omega
    refine ⟨some a, ss.take len, cap, by rw [hlen], ?_, by omega, hm⟩
    by_cases h0 : len = 0
    · left
      subst h0
      simp
    · right
      obtain ⟨b, off, spot⟩ := a
      have hspot : spot = none := by simpa [Addr.add] using World.cell?_spot (hcell 0 (by omega))
      subst hspot
      simp only [Go.WideShapes.add_plain] at hcell
      refine ⟨b, off, rfl, block_lt (hcell 0 (by omega)), fun i x hi => ?_⟩
      have hil : i < len := by
        have := (List.getElem?_eq_some_iff.1 hi).1
        omega
      rw [hcell i (by omega)]
      rw [List.getElem?_take, if_pos hil] at hi
      rw [List.getD, hi]
      rfl

theorem open_tok {H : Type} {enc : TypeId × Value → H} {P : Program} {w : World} {b0 : Nat} {t ti ts tb ta e : TypeId} {f0 f1 f2 f3 f4 f5 f6 f7 f8 f9 g0 g1 : Field} {v : Value} {d : DataW H} {p : List MemPlace}
    (hs : P.underlying t = some (.struct #[f0, f1, f2, f3, f4, f5, f6, f7, f8, f9])) (hC : P.cellsOf t = 10)
    (t0 : f0.type = ti) (t1 : f1.type = ts) (t2 : f2.type = ta) (t3 : f3.type = tb) (t4 : f4.type = ts) (t5 : f5.type = ts) (t6 : f6.type = ts) (t7 : f7.type = tb) (t8 : f8.type = tb) (t9 : f9.type = tb)
    (o0 : f0.offset = 0) (o1 : f1.offset = 1) (o2 : f2.offset = 2) (o3 : f3.offset = 3) (o4 : f4.offset = 4) (o5 : f5.offset = 5) (o6 : f6.offset = 6) (o7 : f7.offset = 7) (o8 : f8.offset = 8) (o9 : f9.offset = 9)
    (ci : P.cellsOf ti = 1) (cs : P.cellsOf ts = 1) (cb : P.cellsOf tb = 1) (ca : P.cellsOf ta = 1) (ce : P.cellsOf e = 2)
    (ui : P.underlying ti = some (.int .i64)) (us : P.underlying ts = some .string) (ub : P.underlying tb = some .bool) (ua : P.underlying ta = some (.slice e)) (ue : P.underlying e = some (.struct #[g0, g1]))
    (q0 : g0.type = ts) (q1 : g1.type = ts) (r0 : g0.offset = 0) (r1 : g1.offset = 1)
    (hv : Value.okWide P w .any b0 t v) (h : DataW.Trod enc P w 0 (fun _ => true) true t v d p) :
    ∃ (k : Int) (n : ByteArray) (A : Option Addr) (xs : List Atr) (cap : Nat) (sf : Bool) (da pu sy : ByteArray) (hp hy qk : Bool),
      v = .agg #[.int .i64 k, .string n, .slice A xs.length cap, .bool sf, .string da, .string pu, .string sy, .bool hp, .bool hy, .bool qk] ∧ (Lit.int .i64 k).wf = true ∧
      n.size ≤ maxLen ∧ da.size ≤ maxLen ∧ pu.size ≤ maxLen ∧ sy.size ≤ maxLen ∧ RdA w A xs ∧ Sz xs ∧ xs.length ≤ cap ∧ cap ≤ maxLen ∧ (A = none → xs = []) ∧ (A = none → cap = 0) := by
  obtain ⟨cs0, rfl, hsz⟩ := okWide_struct hs hv
  obtain ⟨l⟩ := cs0
  match l, hsz.trans hC with
  | [v0, v1, v2, v3, v4, v5, v6, v7, v8, v9], _ =>
    obtain ⟨fuel, hf⟩ := h
    obtain ⟨xs, m, _, hx, _, hlen, hg⟩ := DataW.trod_struct hs hf
    match xs, hlen with
    | [y0, y1, y2, y3, y4, y5, y6, y7, y8, y9], _ =>
      have a0 := hg 0 f0 rfl
      have a1 := hg 1 f1 rfl
      have a2 := hg 2 f2 rfl
      have a3 := hg 3 f3 rfl
      have a4 := hg 4 f4 rfl
      have a5 := hg 5 f5 rfl
      have a6 := hg 6 f6 rfl
      have a7 := hg 7 f7 rfl
      have a8 := hg 8 f8 rfl
      have a9 := hg 9 f9 rfl
      rw [t0, o0, ci] at a0
      rw [t1, o1, cs] at a1
      rw [t2, o2, ca] at a2
      rw [t3, o3, cb] at a3
      rw [t4, o4, cs] at a4
      rw [t5, o5, cs] at a5
      rw [t6, o6, cs] at a6
      rw [t7, o7, cb] at a7
      rw [t8, o8, cb] at a8
      rw [t9, o9, cb] at a9
      obtain ⟨k, e0, _, w0⟩ := DataW.trod_int ui (show DataW.trod enc P w 0 _ true m ti [v0] = some y0 from a0)
      obtain ⟨n, e1, _, w1⟩ := DataW.trod_string us (show DataW.trod enc P w 0 _ true m ts [v1] = some y1 from a1)
      obtain ⟨A, zs, cap, e2, hrd, hz, hc1, hc2, hn, hn2⟩ := open_attrs0 ua ue ce q0 q1 r0 r1 cs us (show DataW.trod enc P w 0 _ true m ta [v2] = some y2 from a2)
      obtain ⟨sf, e3, _⟩ := DataW.trod_bool ub (show DataW.trod enc P w 0 _ true m tb [v3] = some y3 from a3)
      obtain ⟨da, e4, _, w4⟩ := DataW.trod_string us (show DataW.trod enc P w 0 _ true m ts [v4] = some y4 from a4)
      obtain ⟨pu, e5, _, w5⟩ := DataW.trod_string us (show DataW.trod enc P w 0 _ true m ts [v5] = some y5 from a5)
      obtain ⟨sy, e6, _, w6⟩ := DataW.trod_string us (show DataW.trod enc P w 0 _ true m ts [v6] = some y6 from a6)
      obtain ⟨hp, e7, _⟩ := DataW.trod_bool ub (show DataW.trod enc P w 0 _ true m tb [v7] = some y7 from a7)
      obtain ⟨hy, e8, _⟩ := DataW.trod_bool ub (show DataW.trod enc P w 0 _ true m tb [v8] = some y8 from a8)
      obtain ⟨qk, e9, _⟩ := DataW.trod_bool ub (show DataW.trod enc P w 0 _ true m tb [v9] = some y9 from a9)
      injection e0 with e0
      injection e1 with e1
      injection e3 with e3
      injection e4 with e4
      injection e5 with e5
      injection e6 with e6
      injection e7 with e7
      injection e8 with e8
      injection e9 with e9
      subst e0 e1 e2 e3 e4 e5 e6 e7 e8 e9
      exact ⟨k, n, A, zs, cap, sf, da, pu, sy, hp, hy, qk, rfl, w0, w1, w4, w5, w6, hrd, hz, hc1, hc2, hn, hn2⟩

end Go.Proofs.Ytanbbomdidefjaa
