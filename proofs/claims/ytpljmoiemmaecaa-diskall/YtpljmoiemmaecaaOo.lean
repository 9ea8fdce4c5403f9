/- A slice of six-celled structs that comes in (a number, two texts, bytes, two numbers), opened. -/
import Derived.Test.YtpljmoiemmaecaaOp
import Derived.Deep.Slices
namespace Go.Proofs.Ytpljmoiemmaecaa
open Go.RowKit Go.WideShapes Go.ChangeShapes Go.Deep

structure OpV where
  k : Int
  s : ByteArray
  t : ByteArray
  A : Option Addr
  b : List Int
  c : Nat
  n : Int
  torn : Int
instance : Inhabited OpV := ⟨⟨0, ⟨#[]⟩, ⟨#[]⟩, none, [], 0, 0, 0⟩⟩
structure OpOk (w : World) (o : OpV) : Prop where
  rd : Rd w .u8 o.A o.b
  cap : o.b.length ≤ o.c
  mx : o.c ≤ maxLen
  nl : o.A = none → o.c = 0
  ss : o.s.size ≤ maxLen
  ts : o.t.size ≤ maxLen
  k : -9223372036854775808 ≤ o.k ∧ o.k ≤ 9223372036854775807
  n : -9223372036854775808 ≤ o.n ∧ o.n ≤ 9223372036854775807
  torn : -9223372036854775808 ≤ o.torn ∧ o.torn ≤ 9223372036854775807
/-- the six cells of one -/
structure OpAt (w : World) (b off : Nat) (o : OpV) : Prop where
  c0 : w.cell? ⟨b, off, none⟩ = some (.int .i64 o.k)
  c1 : w.cell? ⟨b, off + 1, none⟩ = some (.string o.s)
  c2 : w.cell? ⟨b, off + 2, none⟩ = some (.string o.t)
  c3 : w.cell? ⟨b, off + 3, none⟩ = some (.slice o.A o.b.length o.c)
  c4 : w.cell? ⟨b, off + 4, none⟩ = some (.int .i64 o.n)
  c5 : w.cell? ⟨b, off + 5, none⟩ = some (.int .i64 o.torn)
def RdO (w : World) (A : Option Addr) (os : List OpV) : Prop :=
  os = [] ∨ ∃ b off, A = some ⟨b, off, none⟩ ∧ b < w.heap.size ∧ ∀ i o, os[i]? = some o → OpAt w b (off + i * 6) o ∧ OpOk w o

theorem open_bytes {H : Type} {enc : TypeId × Value → H} {P : Program} {W : World} {t e : TypeId} {k : IntKind} {v : Value} {x : DataW H × List MemPlace} {fuel : Nat}
    (ht : P.underlying t = some (.slice e)) (he : P.underlying e = some (.int k)) (hc : P.cellsOf e = 1) (hf : DataW.trod enc P W 0 (fun _ => true) true fuel t [v] = some x) :
    ∃ A rs cap, v = .slice A rs.length cap ∧ Rd W k A rs ∧ rs.length ≤ cap ∧ cap ≤ maxLen ∧ (A = none → cap = 0) := by
  rcases open_ints ht he hc hf with ⟨hcs, hx⟩ | ⟨a, len, cap, zs, hcs, _, hl, hm, hz, hx, hcell, hwz⟩
  · injection hcs with hcs
    subst hcs
    exact ⟨none, [], 0, rfl, .inl rfl, by simp, by simp, fun _ => rfl⟩
  · injection hcs with hcs
    subst hcs
    simp only [if_true] at hz
    have hlen : (zs.take len).length = len := by simp; omega
    refine ⟨some a, zs.take len, cap, by rw [hlen], ?_, by omega, hm, fun h => (by cases h)⟩
    by_cases h0 : len = 0
    · left
      subst h0
      simp
    · right
      obtain ⟨b, off, rfl, hcl⟩ := ints_at hcell (by omega)
      refine ⟨b, off, rfl, block_lt (hcl 0 (by omega)), fun i hi => ?_⟩
      rw [hlen] at hi
      rw [hcl i (by omega)]
      simp [hi]

theorem open_ops {H : Type} {enc : TypeId × Value → H} {P : Program} {W : World} {base : Nat} {t e ti ts tb tu : TypeId} {f0 f1 f2 f3 f4 f5 : Field} {v : Value} {d : DataW H} {p : List MemPlace}
    (ht : P.underlying t = some (.slice e)) (he : P.underlying e = some (.struct #[f0, f1, f2, f3, f4, f5])) (ce : P.cellsOf e = 6)
    (t0 : f0.type = ti) (t1 : f1.type = ts) (t2 : f2.type = ts) (t3 : f3.type = tb) (t4 : f4.type = ti) (t5 : f5.type = ti)
    (o0 : f0.offset = 0) (o1 : f1.offset = 1) (o2 : f2.offset = 2) (o3 : f3.offset = 3) (o4 : f4.offset = 4) (o5 : f5.offset = 5)
    (ci : P.cellsOf ti = 1) (cs : P.cellsOf ts = 1) (cb : P.cellsOf tb = 1) (cu : P.cellsOf tu = 1)
    (ui : P.underlying ti = some (.int .i64)) (us : P.underlying ts = some .string) (ub : P.underlying tb = some (.slice tu)) (uu : P.underlying tu = some (.int .u8))
    (hv : Value.okWide P W .any base t v) (h : DataW.Trod enc P W 0 (fun _ => true) true t v d p) :
    ∃ A os cap, v = .slice A os.length cap ∧ RdO W A os ∧ os.length ≤ cap ∧ cap ≤ maxLen := by
  obtain ⟨a0, len, cap, rfl⟩ := okWide_slice ht hv
  obtain ⟨fuel, hf⟩ := h
  rcases open_slice ht hf with ⟨hcs, hx⟩ | ⟨a, len', cap', m, n, D, Pl, hcs, _, hl, hm, hmm, hx, hel⟩
  · simp [Value.cells] at hcs
    obtain ⟨rfl, rfl, rfl⟩ := hcs
    exact ⟨none, [], 0, rfl, .inl rfl, by simp, by simp⟩
  · simp [Value.cells] at hcs
    obtain ⟨rfl, rfl, rfl⟩ := hcs
    simp only [if_true] at hmm
    rw [hmm] at hel
    have each : ∀ i, i < cap → ∃ o : OpV, (W.cell? (a.add (i * 6)) = some (.int .i64 o.k) ∧ W.cell? (a.add (i * 6 + 1)) = some (.string o.s) ∧ W.cell? (a.add (i * 6 + 2)) = some (.string o.t) ∧ W.cell? (a.add (i * 6 + 3)) = some (.slice o.A o.b.length o.c) ∧ W.cell? (a.add (i * 6 + 4)) = some (.int .i64 o.n) ∧ W.cell? (a.add (i * 6 + 5)) = some (.int .i64 o.torn)) ∧ OpOk W o := by
      intro i hi
      obtain ⟨cs', h1, h2⟩ := hel i hi
      rw [ce] at h1
      obtain ⟨_, hlen, hcell⟩ := World.cells?_some h1
      obtain ⟨xs, k, hk, hxy, _, hxl, hfl⟩ := DataW.trod_struct he h2
      match xs, hxl, cs', hlen with
      | [y0, y1, y2, y3, y4, y5], _, [v0, v1, v2, v3, v4, v5], _ =>
        have g0 := hfl 0 f0 rfl
        have g1 := hfl 1 f1 rfl
        have g2 := hfl 2 f2 rfl
        have g3 := hfl 3 f3 rfl
        have g4 := hfl 4 f4 rfl
        have g5 := hfl 5 f5 rfl
        rw [t0, o0, ci] at g0
        rw [t1, o1, cs] at g1
        rw [t2, o2, cs] at g2
        rw [t3, o3, cb] at g3
        rw [t4, o4, ci] at g4
        rw [t5, o5, ci] at g5
        obtain ⟨n0, e0, _, w0⟩ := DataW.trod_int ui (show DataW.trod enc P W 0 _ true k ti [v0] = some y0 from g0)
        obtain ⟨s1, e1, _, w1⟩ := DataW.trod_string us (show DataW.trod enc P W 0 _ true k ts [v1] = some y1 from g1)
        obtain ⟨s2, e2, _, w2⟩ := DataW.trod_string us (show DataW.trod enc P W 0 _ true k ts [v2] = some y2 from g2)
        obtain ⟨B, rs, cb', e3, hrd, hle, hmx, hno⟩ := open_bytes ub uu cu (show DataW.trod enc P W 0 _ true k tb [v3] = some y3 from g3)
        obtain ⟨n4, e4, _, w4⟩ := DataW.trod_int ui (show DataW.trod enc P W 0 _ true k ti [v4] = some y4 from g4)
        obtain ⟨n5, e5, _, w5⟩ := DataW.trod_int ui (show DataW.trod enc P W 0 _ true k ti [v5] = some y5 from g5)
        injection e0 with e0
        injection e1 with e1
        injection e2 with e2
        injection e4 with e4
        injection e5 with e5
        subst e0 e1 e2 e3 e4 e5
        have q : ∀ j, j < 6 → _ := hcell
        simp only [add_add] at q
        exact ⟨⟨n0, s1, s2, B, rs, cb', n4, n5⟩, ⟨q 0 (by omega), q 1 (by omega), q 2 (by omega), q 3 (by omega), q 4 (by omega), q 5 (by omega)⟩, ⟨hrd, hle, hmx, hno, w1, w2, bounds_i64 w0, bounds_i64 w4, bounds_i64 w5⟩⟩
    obtain ⟨O, hO⟩ := choose_lt each
    refine ⟨some a, (List.range len).map O, cap, by simp, ?_, by simpa using hl, hm⟩
    by_cases h0 : len = 0
    · left
      subst h0
      rfl
    · right
      obtain ⟨b, off, spot⟩ := a
      have hspot : spot = none := by simpa [Addr.add] using World.cell?_spot (hO 0 (by omega)).1.1
      subst hspot
      simp only [Go.WideShapes.add_plain] at hO
      refine ⟨b, off, rfl, block_lt (hO 0 (by omega)).1.1, fun i o hi => ?_⟩
      have hil : i < len := by
        have := (List.getElem?_eq_some_iff.1 hi).1
        simpa using this
      have : O i = o := by
        rw [List.getElem?_map, List.getElem?_range hil] at hi
        simpa using hi
      subst this
      obtain ⟨⟨q0, q1, q2, q3, q4, q5⟩, hk⟩ := hO i (by omega)
      exact ⟨⟨q0, by rw [Nat.add_assoc]; exact q1, by rw [Nat.add_assoc]; exact q2, by rw [Nat.add_assoc]; exact q3, by rw [Nat.add_assoc]; exact q4, by rw [Nat.add_assoc]; exact q5⟩, hk⟩

theorem OpOk.fr {w w' : World} {o : OpV} (h : OpOk w o) (hs : w.heap.size ≤ w'.heap.size) (hc : ∀ p : Addr, p.block < w.heap.size → w'.cell? p = w.cell? p) : OpOk w' o :=
  ⟨h.rd.keep hs hc, h.cap, h.mx, h.nl, h.ss, h.ts, h.k, h.n, h.torn⟩

end Go.Proofs.Ytpljmoiemmaecaa
