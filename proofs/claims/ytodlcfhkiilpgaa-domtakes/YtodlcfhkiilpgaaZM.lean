/- A slice of integers that comes in, opened. A round of the laws of layer 8. The contract of play. A slice of steps that comes in (five numbers, a text), opened. -/
import Derived.Test.YtodlcfhkiilpgaaZA
import Derived.Test.YtodlcfhkiilpgaaPo
import Derived.ProofKit
import Derived.OpenShut
import Derived.Test.YtodlcfhkiilpgaaZL
import Derived.Test.YtodlcfhkiilpgaaZK
import Derived.Deep.DeepCutAuto
import Derived.Deep.Slices
namespace Go.Proofs.Ytodlcfhkiilpgaa
open Go.RowKit Go.WideShapes Go.ChangeShapes

theorem open_rd {H : Type} {enc : TypeId × Value → H} {P : Program} {W : World} {base : Nat} {t e : TypeId} {k : IntKind} {v : Value} {d : DataW H} {p : List MemPlace}
    (ht : P.underlying t = some (.slice e)) (he : P.underlying e = some (.int k)) (hc : P.cellsOf e = 1) (hv : Value.okWide P W .any base t v) (h : DataW.Trod enc P W 0 (fun _ => true) true t v d p) :
    ∃ A rs cap, v = .slice A rs.length cap ∧ Rd W k A rs ∧ rs.length ≤ cap ∧ cap ≤ maxLen ∧ (∀ n ∈ rs, (Lit.int k n).wf = true) ∧ (A = none → cap = 0) := by
  obtain ⟨a0, len, cap, rfl⟩ := okWide_slice ht hv
  obtain ⟨fuel, hf⟩ := h
  rcases open_ints ht he hc hf with ⟨hcs, hx⟩ | ⟨a, len', cap', zs, hcs, _, hl, hm, hz, hx, hcell, hwz⟩
  · simp [Value.cells] at hcs
    obtain ⟨rfl, rfl, rfl⟩ := hcs
    exact ⟨none, [], 0, rfl, .inl rfl, by simp, by simp, fun n hn => (by simp at hn), fun _ => rfl⟩
  · simp [Value.cells] at hcs
    obtain ⟨rfl, rfl, rfl⟩ := hcs
    simp only [if_true] at hz
    have hlen : (zs.take len).length = len := by simp; omega
    refine ⟨some a, zs.take len, cap, by rw [hlen], ?_, by omega, hm, fun n hn => hwz n (List.mem_of_mem_take hn), fun h => (by cases h)⟩
    by_cases h0 : len = 0
    · left
      subst h0
      simp
    · right
      obtain ⟨b, off, rfl, hcl⟩ := ints_at hcell (by omega)
      refine ⟨b, off, rfl, block_lt (hcl 0 (by omega)), fun i hi => ?_⟩
      rw [hlen] at hi
      rw [hcl i (by omega)]
      simp [hi]

theorem getD_bd {rs : List Int} {lo hi : Int} (h0 : lo ≤ 0) (h1 : 0 ≤ hi) (h : ∀ n ∈ rs, lo ≤ n ∧ n ≤ hi) (i : Nat) : lo ≤ rs[i]?.getD 0 ∧ rs[i]?.getD 0 ≤ hi := by
  cases hi' : rs[i]? with
  | none => simp; omega
  | some x => exact h x (List.mem_of_getElem? hi')

end Go.Proofs.Ytodlcfhkiilpgaa
namespace Go.Proofs.Ytodlcfhkiilpgaa
open Go.RowKit Go.Shelf Go.Lib

theorem wp_joinL {P : Program} {a b : Code} {I : Act → World → Prop} {Q : Exit → Act → World → Prop} {s : Act} {w : World} (h : Code.wp P a (Exit.then I Q) s w) (hb : ∀ s w, I s w → Code.wp P b Q s w) : Code.wp P (.seq a b) Q s w :=
  wp_seq (wp_mono h (by
    intro e a w hq
    cases e with
    | normal => exact hb _ _ hq
    | _ => exact hq))
/-- the switch, whatever the step -/
theorem sw_any (Q : Exit → Act → World → Prop) (w1 W : World) (D : Nat) (v va : Value) (ns : List Nd) (os : List Ow) (m : Nat) (t : Array Value) (hs : t.size = 277) (ob : Nat) (o : OpD) (a b c : Int) (h : HS w1 D v ns va os m (fun k => t.getD k undef) ob o a b c W)
    (hQ : ∀ t' W', PSw w1 D m (fun k => t.getD k undef) t' W' → Q .normal ⟨t', []⟩ W') : Code.wp Try.prog plS Q ⟨t, []⟩ W := by
  rw [frm277_of hs]
  by_cases k0 : o.k = 0
  · exact sw_0 _ _ _ _ _ _ _ _ _ _ _ _ _ _ _ h k0 hQ
  by_cases k1 : o.k = 1
  · exact sw_1 _ _ _ _ _ _ _ _ _ _ _ _ _ _ _ h k1 hQ
  by_cases k2 : o.k = 2
  · exact sw_2 _ _ _ _ _ _ _ _ _ _ _ _ _ _ _ h k2 hQ
  by_cases k3 : o.k = 3
  · by_cases h1 : (os.length : Int) ≤ a
    · exact sw_3a _ _ _ _ _ _ _ _ _ _ _ _ _ _ _ h k3 h1 hQ
    · by_cases h2 : o.s.toList = []
      · exact sw_3b _ _ _ _ _ _ _ _ _ _ _ _ _ _ _ h k3 (by omega) h2 hQ
      · by_cases h3 : c = -1
        · exact NQ.lift (sw_3n _ _ _ _ _ _ _ _ _ _ _ _ _ _ h k3 (by omega) h2 h3) hQ
        · by_cases h4 : Lib.idxOf (pAt (os.map Ow.pl) a Pl.kids []) c < 0
          · exact sw_3c _ _ _ _ _ _ _ _ _ _ _ _ _ _ _ h k3 (by omega) h2 h3 h4 hQ
          · exact NQ.lift (sw_3p _ _ _ _ _ _ _ _ _ _ _ _ _ _ h k3 (by omega) h2 h3 (by omega)) hQ
  by_cases k4 : o.k = 4
  · exact sw_4 _ _ _ _ _ _ _ _ _ _ _ _ _ _ _ h k4 hQ
  exact sw_no _ _ _ _ _ _ _ _ _ _ _ _ _ _ _ h (by omega) hQ
/-- the six cells of a step -/
structure OpAt (W : World) (b off : Nat) (o : OpD) : Prop where
  c0 : W.cell? ⟨b, off, none⟩ = some (.int .i64 o.k)
  c1 : W.cell? ⟨b, off + 1, none⟩ = some (.int .i64 o.a)
  c2 : W.cell? ⟨b, off + 2, none⟩ = some (.int .i64 o.b)
  c3 : W.cell? ⟨b, off + 3, none⟩ = some (.int .i64 o.c)
  c4 : W.cell? ⟨b, off + 4, none⟩ = some (.int .i64 o.n)
  c5 : W.cell? ⟨b, off + 5, none⟩ = some (.string o.s)
def RdO (w : World) (A : Option Addr) (ops : List OpD) : Prop := ops = [] ∨ ∃ b off, A = some ⟨b, off, none⟩ ∧ b < w.heap.size ∧ ∀ i o, ops[i]? = some o → OpAt w b (off + i * 6) o
theorem RdO.below {w w' : World} {A : Option Addr} {ops : List OpD} (h : RdO w A ops) (hb : Below w.heap.size w w') : RdO w' A ops := by
  rcases h with h | ⟨b, off, e, hlt, h⟩
  · exact .inl h
  · refine .inr ⟨b, off, e, Nat.lt_of_lt_of_le hlt hb.size, fun i o ho => ?_⟩
    obtain ⟨c0, c1, c2, c3, c4, c5⟩ := h i o ho
    exact ⟨(hb.cell (p := ⟨b, _, none⟩) hlt).trans c0, (hb.cell (p := ⟨b, _, none⟩) hlt).trans c1, (hb.cell (p := ⟨b, _, none⟩) hlt).trans c2, (hb.cell (p := ⟨b, _, none⟩) hlt).trans c3, (hb.cell (p := ⟨b, _, none⟩) hlt).trans c4, (hb.cell (p := ⟨b, _, none⟩) hlt).trans c5⟩
/-- a round's frame: the steps, the tree, its own list, how far -/
def RS (w1 : World) (D : Nat) (O : Option Addr) (n co : Nat) (j m : Nat) (a : Act) (W : World) : Prop :=
  ∃ F v ns os, a = ⟨frm277 F, []⟩ ∧ F 0 = .slice O n co ∧ F 5 = .pointer (some ⟨D, 0, none⟩) ∧ F 7 = .int .i64 (j : Nat) ∧ St w1 D v ns (F 6) os m W
theorem mod_ok (x : Int) (L : Nat) (hL : L ≤ 1000) : ∃ a, (bits BinOp.and IntKind.i64 x 65535).tmod ((L : Int) + 2) = a ∧ 0 ≤ a ∧ a < (L : Int) + 2 := by
  rw [and65L]
  have h0 : (0 : Int) ≤ x % 65536 := by omega
  rw [Int.tmod_eq_emod_of_nonneg h0]
  exact ⟨_, rfl, Int.emod_nonneg _ (by omega), Int.emod_lt_of_pos _ (by omega)⟩
set_option maxRecDepth 100000 in
set_option maxHeartbeats 4000000 in
theorem plB_wp (Q : Exit → Act → World → Prop) (w1 W : World) (D : Nat) (O : Option Addr) (co i : Nat) (ops : List OpD) (a : Act) (hO : RdO w1 O ops) (hi : i < ops.length) (hi60 : i < 60) (hR : RS w1 D O ops.length co i i a W)
    (hQ : ∀ a' W', RS w1 D O ops.length co i (i + 1) a' W' → Q .normal a' W' ∧ Q (.exit 1) a' W') : Code.wp Try.prog plB Q a W := by
  obtain ⟨F, v, ns, os, rfl, e0, e5, e7, st⟩ := hR
  obtain ⟨o, ho⟩ : ∃ o, ops[i]? = some o := ⟨_, List.getElem?_eq_getElem hi⟩
  have hO2 := hO.below st.bw
  obtain ⟨b, off, rfl, hb, hat⟩ : ∃ b off, O = some ⟨b, off, none⟩ ∧ b < W.heap.size ∧ OpAt W b (off + i * 6) o := by
    rcases hO2 with h | ⟨b, off, e, hb, h⟩
    · rw [h] at hi; simp at hi
    · exact ⟨b, off, e, hb, h i o ho⟩
  obtain ⟨x0, x1, x2, x3, x4, x5⟩ := hat
  obtain ⟨va, hva⟩ : ∃ va, F 6 = va := ⟨_, rfl⟩
  rw [hva] at st
  obtain ⟨Av, cv, hv, _, _, _⟩ := st.own.sl
  subst hv
  have hle := st.len
  have HQ := Lib.hid hQ
  have HST := Lib.hid st
  have hob : ∀ o1, (W.alloc o1).heap[W.heap.size]? = some o1 := fun o1 => heap_alloc_new W o1
  have HOB := Lib.hid hob
  have dil : decide ((i : Int) < (ops.length : Int)) = true := decide_eq_true (by omega)
  clear hQ st ho hO hO2 hob hb
  obtain ⟨av, hav, ha0, ha1⟩ := mod_ok o.a os.length (by omega)
  obtain ⟨bv, hbv, hb0, hb1⟩ := mod_ok o.b os.length (by omega)
  obtain ⟨cc, hcc, hc0, hc1⟩ := mod_ok o.c os.length (by omega)
  have cb := HOB.out (.cells o.cs 87)
  have ha0' := Lib.hid ha0
  have hb0' := Lib.hid hb0
  have hc0' := Lib.hid hc0
  have FBW := Lib.hid (show Below W.heap.size W (W.alloc (.cells o.cs 87)) from (Below.refl _ W).alloc (Nat.le_refl _) _)
  have HDN := Lib.hid (show ¬ DB D v ns W.heap.size from fun e => by have := (HST.out.doc.in_ _ e).2; omega)
  have HON := Lib.hid (show ¬ OB (.slice Av os.length cv) os W.heap.size from fun e => by have := (HST.out.own.in_ _ e).2; omega)
  have CB := Lib.hid cb
  have HBS := Lib.hid HST.out.bw.size
  have SW : ∀ (t : Array Value), t.size = 277 → t.getD 0 undef = .slice (some ⟨b, off, none⟩) ops.length co → t.getD 5 undef = .pointer (some ⟨D, 0, none⟩) → t.getD 6 undef = .slice Av os.length cv → t.getD 7 undef = .int .i64 (i : Nat) → t.getD 8 undef = .pointer (some ⟨W.heap.size, 0, none⟩) → t.getD 10 undef = .int .i64 av → t.getD 11 undef = .int .i64 bv → (∃ c, t.getD 12 undef = .int .i64 c ∧ -1 ≤ c ∧ c < os.length) → t.getD 65 undef = .int .i64 o.k → o.s.size ≤ 50 →
      ∀ (Q' : Exit → Act → World → Prop), (∀ a' W', RS w1 D (some ⟨b, off, none⟩) ops.length co i (i + 1) a' W' → Q' .normal a' W') → Code.wp Try.prog plS Q' ⟨t, []⟩ (W.alloc (.cells o.cs 87)) := by
    intro t hs t0 t5 t6 t7 t8 t10 t11 ⟨c, t12, c0, c1⟩ t65 hsz Q' hQ'
    refine sw_any Q' w1 _ D v (.slice Av os.length cv) ns os i t hs W.heap.size o av bv c ⟨HST.out.below FBW.out, t5, t6, t8, t10, t11, t12, t65, CB.out, HBS.out, HDN.out, HON.out, ha0'.out, hb0'.out, ⟨c0, c1⟩, hsz, hi60⟩ ?_
    rintro t' W' ⟨s', u0, u5, u7, v', ns', os', hst'⟩
    exact hQ' _ _ ⟨fun k => t'.getD k undef, v', ns', os', by rw [← frm277_of s'], u0.trans t0, u5, u7.trans t7, hst'⟩
  have HSW := Lib.hid SW
  have HC := Lib.hid hc1
  clear cb SW hc1 ha0 ha1 hb0 hb1 hc0
  by_cases h50 : (50 : Int) < (o.s.size : Int)
  · have d50 : decide ((50 : Int) < (o.s.size : Int)) = true := decide_eq_true h50
    have HRS : Hid (∀ t : Array Value, t.size = 277 → t.getD 0 undef = .slice (some ⟨b, off, none⟩) ops.length co → t.getD 5 undef = .pointer (some ⟨D, 0, none⟩) → t.getD 6 undef = .slice Av os.length cv → t.getD 7 undef = .int .i64 (i : Nat) → RS w1 D (some ⟨b, off, none⟩) ops.length co i (i + 1) ⟨t, []⟩ (W.alloc (.cells o.cs 87))) := Lib.hid (fun t hs t0 t5 t6 t7 => ⟨fun k => t.getD k undef, v, ns, os, by rw [← frm277_of hs], t0, t5, t7, by show St _ _ _ _ (t.getD 6 undef) _ _ _; rw [t6]; exact (HST.out.below FBW.out).more⟩)
    unfold frm277
    rw [e0, e5, hva, e7]
    clear e0 e5 hva e7 h50
    conv => arg 2; whnf
    go_wp2
    exact (HQ.out _ _ (HRS.out _ rfl rfl rfl rfl rfl)).2
  · have d50 : decide ((50 : Int) < (o.s.size : Int)) = false := decide_eq_false h50
    have H50 : Hid (o.s.size ≤ 50) := Lib.hid (by omega)
    by_cases hcl : cc < (os.length : Int)
    · have hcl2 : ¬ (os.length : Int) ≤ cc := by omega
      unfold frm277
      rw [e0, e5, hva, e7]
      clear e0 e5 hva e7 h50
      conv => arg 2; whnf
      go_upto_block 2 with fail
      change Code.wp Try.prog plS _ _ _
      exact HSW.out _ rfl rfl rfl rfl rfl rfl rfl rfl ⟨cc, rfl, by have := hc0'.out; omega, hcl⟩ rfl H50.out _ (fun a' W' h => (HQ.out _ _ h).1)
    · have hcl2 : (os.length : Int) ≤ cc := by omega
      unfold frm277
      rw [e0, e5, hva, e7]
      clear e0 e5 hva e7 h50
      conv => arg 2; whnf
      go_upto_block 2 with fail
      change Code.wp Try.prog plS _ _ _
      exact HSW.out _ rfl rfl rfl rfl rfl rfl rfl rfl ⟨-1, rfl, by omega, by omega⟩ rfl H50.out _ (fun a' W' h => (HQ.out _ _ h).1)
end Go.Proofs.Ytodlcfhkiilpgaa
namespace Go.Proofs.Ytodlcfhkiilpgaa
open Go.RowKit Go.Shelf Go.Lib

noncomputable def plL : Code := subC [1, 1, 1, 0, 1, 2, 2] (Try.f21.body.getD .skip)
noncomputable def pl4 : Code := subC [0] plL
noncomputable def pl5 : Code := subC [1, 1] plL
set_option maxRecDepth 100000 in
theorem plL_is : plL = .seq pl4 (.seq (.block 1 plB) pl5) := by kernel_rfl
theorem RS.mk_ {w1 W : World} {D : Nat} {O : Option Addr} {n co j m : Nat} {v va : Value} {ns : List Nd} {os : List Ow} {t : Array Value} (hs : t.size = 277) (t0 : t.getD 0 undef = .slice O n co) (t5 : t.getD 5 undef = .pointer (some ⟨D, 0, none⟩)) (t6 : t.getD 6 undef = va) (t7 : t.getD 7 undef = .int .i64 (j : Nat)) (h : St w1 D v ns va os m W) : RS w1 D O n co j m ⟨t, []⟩ W :=
  ⟨fun k => t.getD k undef, v, ns, os, by rw [← frm277_of hs], t0, t5, t7, by show St _ _ _ _ (t.getD 6 undef) _ _ _; rw [t6]; exact h⟩
set_option maxRecDepth 100000 in
set_option maxHeartbeats 2000000 in
theorem pl4_wp (Q : Exit → Act → World → Prop) (w1 W : World) (D : Nat) (O : Option Addr) (n co i m : Nat) (a : Act) (hR : RS w1 D O n co i m a W) (hQ : ∀ a, RS w1 D O n co i m a W → i < n → i < 60 → Q .normal a W) (hX : ∀ a, RS w1 D O n co i m a W → Q (.exit 0) a W) : Code.wp Try.prog pl4 Q a W := by
  obtain ⟨F, v, ns, os, rfl, e0, e5, e7, st⟩ := hR
  obtain ⟨va, hva⟩ : ∃ va, F 6 = va := ⟨_, rfl⟩
  rw [hva] at st
  have HX := Lib.hid hX
  have HQ := Lib.hid hQ
  have HST := Lib.hid st
  clear hX hQ st
  by_cases h1 : i < n
  · have H1 := Lib.hid h1
    have d1 : decide ((i : Int) < (n : Int)) = true := by simpa using h1
    by_cases h2 : i < 60
    · have H2 := Lib.hid h2
      have d2 : decide ((i : Int) < 60) = true := by simp; omega
      unfold frm277
      rw [e0, e5, hva, e7]
      clear e0 e5 hva e7
      conv => arg 2; whnf
      go_wp2
      refine HQ.out _ ?_ H1.out H2.out
      exact RS.mk_ rfl rfl rfl rfl rfl HST.out
    · have d2 : decide ((i : Int) < 60) = false := by simp; omega
      unfold frm277
      rw [e0, e5, hva, e7]
      clear e0 e5 hva e7
      conv => arg 2; whnf
      go_wp2
      refine HX.out _ ?_
      exact RS.mk_ rfl rfl rfl rfl rfl HST.out
  · have d1 : decide ((i : Int) < (n : Int)) = false := by simpa using h1
    unfold frm277
    rw [e0, e5, hva, e7]
    clear e0 e5 hva e7
    conv => arg 2; whnf
    go_wp2
    refine HX.out _ ?_
    exact RS.mk_ rfl rfl rfl rfl rfl HST.out
set_option maxRecDepth 100000 in
set_option maxHeartbeats 2000000 in
theorem pl5_wp (Q : Exit → Act → World → Prop) (w1 W : World) (D : Nat) (O : Option Addr) (n co i m : Nat) (a : Act) (hi : i < 60) (hR : RS w1 D O n co i m a W) (hQ : ∀ a, RS w1 D O n co (i + 1) m a W → a.tmps.getD 7 undef = .int .i64 ((i + 1 : Nat) : Int) → Q .normal a W) : Code.wp Try.prog pl5 Q a W := by
  obtain ⟨F, v, ns, os, rfl, e0, e5, e7, st⟩ := hR
  obtain ⟨va, hva⟩ : ∃ va, F 6 = va := ⟨_, rfl⟩
  rw [hva] at st
  have HQ := Lib.hid hQ
  have HST := Lib.hid st
  clear hQ st
  unfold frm277
  rw [e0, e5, hva, e7]
  clear e0 e5 hva e7
  conv => arg 2; whnf
  go_wp2
  refine HQ.out _ ?_ ?_
  · exact RS.mk_ rfl rfl rfl rfl (by show Value.int .i64 ((i : Int) + 1) = _; go_num) HST.out
  · show Value.int .i64 ((i : Int) + 1) = _
    go_num
theorem measL {i : Nat} (hi : i < 60) : 60 - (RowKit.intOf (Value.int .i64 ((i + 1 : Nat) : Int))).toNat < 60 - (RowKit.intOf (Value.int .i64 (i : Nat))).toNat := by
  simp [RowKit.intOf]
  omega
/-- the page alone -/
theorem st_start {w1 W : World} {D : Nat} {v va : Value} (hd : DocM w1.heap.size D v false [pageNd] W) (ho : OwM w1.heap.size va [Ow.mk ⟨1, ⟨#[]⟩, ⟨#[]⟩, -1, [], -1⟩ (.slice none 0 0)] W) (hdis : ∀ k, DB D v [pageNd] k → va.ownBlock ≠ some k) (hb : Below w1.heap.size w1 W) : St w1 D v [pageNd] va [Ow.mk ⟨1, ⟨#[]⟩, ⟨#[]⟩, -1, [], -1⟩ (.slice none 0 0)] 0 W := by
  refine ⟨hd, ho, rfl, fun k hk e => ?_, ?_, hb, by simp, by simp, fun x hx => ?_, fun r hr => ?_⟩
  · rcases e with e | ⟨i, x, hx, e⟩
    · exact hdis k hk e
    · match i, hx with
      | 0, hx => simp at hx; subst hx; cases e
      | i + 1, hx => simp at hx
  · have he : Tr ([] : List Pl) := by
      constructor
      all_goals first | (intro i x hx; simp at hx) | (intro i hi; simp at hi)
    have := tr_push (xs := [⟨1, ⟨#[]⟩, ⟨#[]⟩, -1, [], -1⟩]) he (fun j x hx => by
      match j, hx with
      | 0, hx => simp at hx; subst hx; exact ⟨rfl, rfl, (show (1 : Int) ≤ 1 by omega), .inl rfl⟩
      | j + 1, hx => simp at hx) (by simp) (nmd_one nmd_page)
    exact this
  · simp at hx
    subst hx
    exact Nat.zero_le _
  · simp at hr
    subst hr
    rfl
set_option maxRecDepth 100000 in
set_option maxHeartbeats 4000000 in
theorem play_any (ops : List OpD) (O : Option Addr) (co : Nat) (w : World) (hO : RdO w O ops) :
    Calls Try.prog 21 #[.slice O ops.length co] w fun e w' => ∃ D v ns va os, e = .returned (.tuple #[.pointer (some ⟨D, 0, none⟩), va, .bool true]) ∧ St w D v ns va os 60 w' := by
  have HO := Lib.hid hO
  have KN := Lib.hid (New_any w)
  clear hO
  go_enter Try.func21, Try.ntmps21
  go_wp2_with fail
  refine KN.out.mono ?_
  rintro e W1 ⟨D, v, rfl, hd, hb1⟩
  have hs1 := hb1.size
  have FB : ∀ o1 : Obj, Below W1.heap.size W1 (W1.alloc o1) := fun o1 => (Below.refl _ W1).alloc (Nat.le_refl _) _
  have HST : Hid (St w D v [pageNd] (.slice (some ⟨W1.heap.size, 0, none⟩) 1 1) [Ow.mk ⟨1, ⟨#[]⟩, ⟨#[]⟩, -1, [], -1⟩ (.slice none 0 0)] 0 (W1.alloc (.cells #[.int .i64 1, .string ⟨#[]⟩, .string ⟨#[]⟩, .int .i64 (-1), .slice none 0 0, .int .i64 (-1)] 57))) := Lib.hid (by
    refine st_start (hd.below (FB _)) ⟨?_, fun i x hx => ?_⟩ (fun k hk e => ?_) (hb1.alloc hs1 _)
    · refine ⟨by simp [cellsO, Ow.cs], .inr ⟨W1.heap.size, 1, _, rfl, hs1, heap_alloc_new W1 _, Nat.le_refl _, by decide, rfl, rfl⟩⟩
    · match i, hx with
      | 0, hx => simp at hx; subst hx; exact World.ownsRow_nil _ _ _ _
      | i + 1, hx => simp at hx
    · have := (hd.in_ k hk).2
      simp [Value.ownBlock] at e
      omega)
  clear hd hb1 hs1 FB KN
  go_upto_block 0 with fail
  rename_i hKK
  refine wp_block ?_
  refine wp_loop (fun a W => ∃ i : Nat, i ≤ 60 ∧ RS w D O ops.length co i i a W ∧ a.tmps.getD 7 undef = .int .i64 (i : Nat)) (fun a _ => 60 - (RowKit.intOf (a.tmps.getD 7 undef)).toNat) ?_ ?_
  · exact ⟨0, by omega, RS.mk_ rfl rfl rfl rfl rfl HST.out, rfl⟩
  · rintro a W ⟨i, hi, hR, h7⟩
    change Code.wp Try.prog plL _ a W
    rw [plL_is]
    refine wp_joinL (I := fun a W' => RS w D O ops.length co i i a W' ∧ i < ops.length ∧ i < 60) (pl4_wp _ w W D O ops.length co i i a hR (fun a h h1 h2 => ⟨h, h1, h2⟩) ?_) ?_
    · intro a h
      refine hKK _ _ ?_
      obtain ⟨F, v', ns', os', rfl, e0, e5, e7, st⟩ := h
      obtain ⟨va, hva⟩ : ∃ va, F 6 = va := ⟨_, rfl⟩
      rw [hva] at st
      have HST2 : Hid (St w D v' ns' va os' 60 W) := Lib.hid ⟨st.doc, st.own, st.eq, st.dis, st.tr, st.bw, by have := st.len; omega, st.pos, fun x hx => by have := st.dat x hx; omega, st.rst⟩
      clear st hKK hR
      unfold frm277
      rw [e0, e5, hva, e7]
      clear e0 e5 hva e7
      go_wp2
      go_ret3
      exact ⟨D, v', ns', va, os', rfl, HST2.out⟩
    · rintro a W2 ⟨hR2, hin, hi60⟩
      have hend : ∀ a W', RS w D O ops.length co i (i + 1) a W' → Code.wp Try.prog pl5 (Exit.then (fun a' w' => (∃ i : Nat, i ≤ 60 ∧ RS w D O ops.length co i i a' w' ∧ a'.tmps.getD 7 undef = .int .i64 (i : Nat)) ∧ 60 - (RowKit.intOf (a'.tmps.getD 7 undef)).toNat < 60 - (RowKit.intOf (Value.int .i64 (i : Nat))).toNat) (fun _ _ _ => False)) a W' := by
        intro a W' h
        refine pl5_wp _ w W' D O ops.length co i (i + 1) a hi60 h ?_
        intro a' h' h7'
        refine ⟨⟨i + 1, by omega, h', h7'⟩, ?_⟩
        rw [h7']
        exact measL hi60
      refine wp_joinL (I := RS w D O ops.length co i (i + 1)) (wp_block (plB_wp _ w W2 D O co i ops a HO.out hin hi60 hR2 ?_)) ?_
      · intro a W' h
        exact ⟨h, h⟩
      · intro a W' h
        refine wp_mono (hend a W' h) ?_
        intro e a w hq
        cases e with
        | normal => rw [h7]; exact hq
        | _ => exact hq.elim
end Go.Proofs.Ytodlcfhkiilpgaa
namespace Go.Proofs.Ytodlcfhkiilpgaa
open Go.RowKit Go.WideShapes Go.ChangeShapes Go.Deep

instance : Inhabited OpD := ⟨⟨0, 0, 0, 0, 0, ⟨#[]⟩⟩⟩
theorem open_steps {H : Type} {enc : TypeId × Value → H} {P : Program} {W : World} {base : Nat} {t e ti ts : TypeId} {f0 f1 f2 f3 f4 f5 : Field} {v : Value} {d : DataW H} {p : List MemPlace}
    (ht : P.underlying t = some (.slice e)) (he : P.underlying e = some (.struct #[f0, f1, f2, f3, f4, f5])) (ce : P.cellsOf e = 6)
    (t0 : f0.type = ti) (t1 : f1.type = ti) (t2 : f2.type = ti) (t3 : f3.type = ti) (t4 : f4.type = ti) (t5 : f5.type = ts)
    (o0 : f0.offset = 0) (o1 : f1.offset = 1) (o2 : f2.offset = 2) (o3 : f3.offset = 3) (o4 : f4.offset = 4) (o5 : f5.offset = 5)
    (ci : P.cellsOf ti = 1) (cs : P.cellsOf ts = 1)
    (ui : P.underlying ti = some (.int .i64)) (us : P.underlying ts = some .string)
    (hv : Value.okWide P W .any base t v) (h : DataW.Trod enc P W 0 (fun _ => true) true t v d p) :
    ∃ A os cap, v = .slice A os.length cap ∧ RdO W A os := by
  obtain ⟨a0, len, cap, rfl⟩ := okWide_slice ht hv
  obtain ⟨fuel, hf⟩ := h
  rcases open_slice ht hf with ⟨hcs, hx⟩ | ⟨a, len', cap', m, n, D, Pl, hcs, _, hl, hm, hmm, hx, hel⟩
  · simp [Value.cells] at hcs
    obtain ⟨rfl, rfl, rfl⟩ := hcs
    exact ⟨none, [], 0, rfl, .inl rfl⟩
  · simp [Value.cells] at hcs
    obtain ⟨rfl, rfl, rfl⟩ := hcs
    simp only [if_true] at hmm
    rw [hmm] at hel
    have each : ∀ i, i < cap → ∃ o : OpD, W.cell? (a.add (i * 6)) = some (.int .i64 o.k) ∧ W.cell? (a.add (i * 6 + 1)) = some (.int .i64 o.a) ∧ W.cell? (a.add (i * 6 + 2)) = some (.int .i64 o.b) ∧ W.cell? (a.add (i * 6 + 3)) = some (.int .i64 o.c) ∧ W.cell? (a.add (i * 6 + 4)) = some (.int .i64 o.n) ∧ W.cell? (a.add (i * 6 + 5)) = some (.string o.s) := by
      intro i hi
      obtain ⟨cs', h1, h2⟩ := hel i hi
      rw [ce] at h1
      obtain ⟨_, hlen, hcell⟩ := World.cells?_some h1
      obtain ⟨xs, k, hk, hxy, _, hxl, hfl⟩ := DataW.trod_struct he h2
      match xs, hxl, cs', hlen with
      | [y0, y1, y2, y3, y4, y5], _, [v0, v1, v2, v3, v4, v5], _ =>
        have g0 := hfl 0 f0 rfl
        have g1 := hfl 1 f1 rfl
        have g2 := hfl 2 f2 rfl
        have g3 := hfl 3 f3 rfl
        have g4 := hfl 4 f4 rfl
        have g5 := hfl 5 f5 rfl
        rw [t0, o0, ci] at g0
        rw [t1, o1, ci] at g1
        rw [t2, o2, ci] at g2
        rw [t3, o3, ci] at g3
        rw [t4, o4, ci] at g4
        rw [t5, o5, cs] at g5
        obtain ⟨n0, e0, _, w0⟩ := DataW.trod_int ui (show DataW.trod enc P W 0 _ true k ti [v0] = some y0 from g0)
        obtain ⟨n1, e1, _, w1⟩ := DataW.trod_int ui (show DataW.trod enc P W 0 _ true k ti [v1] = some y1 from g1)
        obtain ⟨n2, e2, _, w2⟩ := DataW.trod_int ui (show DataW.trod enc P W 0 _ true k ti [v2] = some y2 from g2)
        obtain ⟨n3, e3, _, w3⟩ := DataW.trod_int ui (show DataW.trod enc P W 0 _ true k ti [v3] = some y3 from g3)
        obtain ⟨n4, e4, _, w4⟩ := DataW.trod_int ui (show DataW.trod enc P W 0 _ true k ti [v4] = some y4 from g4)
        obtain ⟨s5, e5, _, w5⟩ := DataW.trod_string us (show DataW.trod enc P W 0 _ true k ts [v5] = some y5 from g5)
        injection e0 with e0
        injection e1 with e1
        injection e2 with e2
        injection e3 with e3
        injection e4 with e4
        injection e5 with e5
        subst e0 e1 e2 e3 e4 e5
        have q : ∀ j, j < 6 → _ := hcell
        simp only [add_add] at q
        exact ⟨⟨n0, n1, n2, n3, n4, s5⟩, q 0 (by omega), q 1 (by omega), q 2 (by omega), q 3 (by omega), q 4 (by omega), q 5 (by omega)⟩
    obtain ⟨O, hO⟩ := choose_lt each
    refine ⟨some a, (List.range len).map O, cap, by simp, ?_⟩
    by_cases h0 : len = 0
    · left
      subst h0
      rfl
    · right
      obtain ⟨b, off, spot⟩ := a
      have hspot : spot = none := by simpa [Addr.add] using World.cell?_spot (hO 0 (by omega)).1
      subst hspot
      simp only [Go.WideShapes.add_plain] at hO
      refine ⟨b, off, rfl, block_lt (hO 0 (by omega)).1, fun i o hi => ?_⟩
      have hil : i < len := by
        have := (List.getElem?_eq_some_iff.1 hi).1
        simpa using this
      have : O i = o := by
        rw [List.getElem?_map, List.getElem?_range hil] at hi
        simpa using hi
      subst this
      obtain ⟨q0, q1, q2, q3, q4, q5⟩ := hO i (by omega)
      exact ⟨q0, by rw [Nat.add_assoc]; exact q1, by rw [Nat.add_assoc]; exact q2, by rw [Nat.add_assoc]; exact q3, by rw [Nat.add_assoc]; exact q4, by rw [Nat.add_assoc]; exact q5⟩
end Go.Proofs.Ytodlcfhkiilpgaa
