/- The law OpenEnds with more than thirty names; a list of names that comes in, opened. -/
import Derived.Test.YtfkbjniodomdjaaSza
import Derived.Test.YtfkbjniodomdjaaOp
import Derived.Deep.Slices
import Derived.Lib.SmallJoins
namespace Go.Proofs.Ytfkbjniodomdjaa
open Go.RowKit Go.Shelf Go.Lib Go.WideShapes Go.ChangeShapes Go.Deep Go.Joins

set_option maxRecDepth 100000 in
theorem openEnds_long (nm : List Nam) (A : Option Addr) (cap : Nat) (a b : ByteArray) (all : Bool) (w : World) (hl : 30 < nm.length) :
    Calls Try.prog 9 #[.slice A nm.length cap, .string a, .string b, .bool all] w fun e w' => e = .returned (.bool true) ∧ Below w.heap.size w w' := by
  have KH := Lib.hid (head11_any ((w.alloc (.cells #[.string a] 9)).alloc (.cells #[.string b] 9)))
  have hB : Below w.heap.size w ((w.alloc (.cells #[.string a] 9)).alloc (.cells #[.string b] 9)) := ((Below.refl _ w).alloc (Nat.le_refl _) _).alloc (by simp) _
  have HB := Lib.hid hB
  have d30 : decide ((30 : Int) < (nm.length : Int)) = true := decide_eq_true (by omega)
  clear hB
  go_enter Try.func9, Try.ntmps9
  go_wp2_with fail
  refine KH.out.mono ?_
  rintro e w1 ⟨rfl, hb1⟩
  have HB1 := Lib.hid (HB.out.trans (hb1.mono HB.out.size))
  clear hb1 KH HB
  go_wp2
  go_ret
  exact ⟨rfl, HB1.out⟩
theorem openEnds_law (nm : List Nam) (A : Option Addr) (cap : Nat) (a b : ByteArray) (all : Bool) (w : World) (hr : RdM w A nm) :
    Calls Try.prog 9 #[.slice A nm.length cap, .string a, .string b, .bool all] w fun e w' => e = .returned (.bool true) ∧ Below w.heap.size w w' := by
  by_cases hl : nm.length ≤ 30
  · exact openEnds_short nm A cap a b all w hr hl
  · exact openEnds_long nm A cap a b all w (by omega)

theorem open_names {H : Type} {enc : TypeId × Value → H} {P : Program} {W : World} {base : Nat} {t e ts ti : TypeId} {f0 f1 : Field} {v : Value} {d : DataW H} {p : List MemPlace}
    (ht : P.underlying t = some (.slice e)) (he : P.underlying e = some (.struct #[f0, f1])) (ce : P.cellsOf e = 2)
    (t0 : f0.type = ts) (t1 : f1.type = ti) (o0 : f0.offset = 0) (o1 : f1.offset = 1) (cs : P.cellsOf ts = 1) (us : P.underlying ts = some .string)
    (ci : P.cellsOf ti = 1) (ui : P.underlying ti = some (.int .i64))
    (hv : Value.okWide P W .any base t v) (h : DataW.Trod enc P W 0 (fun _ => true) true t v d p) :
    ∃ A xs cap, v = .slice A xs.length cap ∧ RdM W A xs := by
  obtain ⟨a0, len, cap, rfl⟩ := okWide_slice ht hv
  obtain ⟨fuel, hf⟩ := h
  simp only [Value.cells] at hf
  rcases open_slice ht hf with ⟨hcs, hx⟩ | ⟨a, len, cap, m, n, D, Pl, hcs, _, hl, hm, hmm, hx, hel⟩
  · simp at hcs
    obtain ⟨rfl, rfl, rfl⟩ := hcs
    exact ⟨none, [], 0, rfl, .inl rfl⟩
  · simp at hcs
    obtain ⟨rfl, rfl, rfl⟩ := hcs
    simp only [if_true] at hmm
    rw [hmm] at hel
    have each : ∀ i, i < cap → ∃ o : Nam, (W.cell? (a.add (i * 2)) = some (.string o.1) ∧ W.cell? (a.add (i * 2 + 1)) = some (.int .i64 o.2)) := by
      intro i hi
      obtain ⟨cs', h1, h2⟩ := hel i hi
      rw [ce] at h1
      obtain ⟨_, hlen, hcell⟩ := World.cells?_some h1
      obtain ⟨xs, k, hk, hxy, _, hxl, hfl⟩ := DataW.trod_struct he h2
      match xs, hxl, cs', hlen with
      | [y0, y1], _, [v0, v1], _ =>
        have g0 := hfl 0 f0 rfl
        have g1 := hfl 1 f1 rfl
        rw [t0, o0, cs] at g0
        rw [t1, o1, ci] at g1
        obtain ⟨s0, e0, _, w0⟩ := DataW.trod_string us (show DataW.trod enc P W 0 _ true k ts [v0] = some y0 from g0)
        obtain ⟨s1, e1, _, w1⟩ := DataW.trod_int ui (show DataW.trod enc P W 0 _ true k ti [v1] = some y1 from g1)
        injection e0 with e0
        injection e1 with e1
        subst e0 e1
        have q : ∀ j, j < 2 → _ := hcell
        simp only [add_add] at q
        exact ⟨(s0, s1), q 0 (by omega), q 1 (by omega)⟩
    obtain ⟨O, hO⟩ := choose_lt each
    refine ⟨some a, (List.range len).map O, cap, by simp, ?_⟩
    by_cases h0 : len = 0
    · left
      subst h0
      rfl
    · right
      obtain ⟨b, off, spot⟩ := a
      have hspot : spot = none := by simpa [Addr.add] using World.cell?_spot (hO 0 (by omega)).1
      subst hspot
      simp only [Go.WideShapes.add_plain] at hO
      refine ⟨b, off, rfl, block_lt (hO 0 (by omega)).1, fun i o hi => ?_⟩
      have hil : i < len := by
        have := (List.getElem?_eq_some_iff.1 hi).1
        simpa using this
      have : O i = o := by
        rw [List.getElem?_map, List.getElem?_range hil] at hi
        simpa using hi
      subst this
      obtain ⟨q0, q1⟩ := hO i (by omega)
      exact ⟨q0, by rw [Nat.add_assoc]; exact q1⟩
end Go.Proofs.Ytfkbjniodomdjaa
