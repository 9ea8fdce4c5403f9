/- DiskRuns: a round, joined of its pieces. DiskRuns: a round from its beginning. The law DiskRuns, walked. -/
import Derived.Test.YtbdmlenapccdnaaJoin11
namespace Go.Proofs.Ytbdmlenapccdnaa
open Go.RowKit

theorem wp_join {P : Program} {a b : Code} {I : Act → World → Prop} {Q : Exit → Act → World → Prop} {s : Act} {w : World} (h : Code.wp P a (Exit.then I Q) s w) (hb : ∀ s w, I s w → Code.wp P b Q s w) : Code.wp P (.seq a b) Q s w :=
  wp_seq (wp_mono h (by
    intro e a w hq
    cases e with
    | normal => exact hb _ _ hq
    | _ => exact hq))
theorem room_chg (A : Ab) (c : AC) : (chgA A c).room = A.room := (stpA_rest A).2.2.2
theorem room_A2 (A : Ab) (o : OpV) : (A2 A o).room = A.room := by
  have h1 : ∀ s b, (wrA A s b).1.room = A.room := by
    intro s b
    unfold wrA
    split
    · split
      · rfl
      · exact room_chg _ _
    · rfl
  have h2 : ∀ s t, (mvA A s t).1.room = A.room := by
    intro s t
    unfold mvA
    split
    · split
      · rfl
      · split
        · exact (stpA_rest A).2.2.2
        · exact room_chg _ _
    · rfl
  have h3 : ∀ s, (drA A s).1.room = A.room := by
    intro s
    unfold drA
    split
    · split
      · rfl
      · exact room_chg _ _
    · rfl
  have h4 : (syA A).1.room = A.room := by
    unfold syA
    split
    · rfl
    · split
      · exact (stpA_rest A).2.2.2
      · exact (stpA_rest A).2.2.2
  unfold A2 A1
  split
  · unfold fuA; split <;> rfl
  · split
    · rfl
    · split
      · exact h1 _ _
      · split
        · exact h2 _ _
        · split
          · exact h3 _
          · split
            · exact h4
            · rfl

noncomputable def inner2 : Code := sub [1, 1, 1, 1] inner
noncomputable def p41 : Code := sub [1, 1, 1, 1, 1, 1, 0] inner
set_option maxRecDepth 100000 in
theorem inner2_is : inner2 = .seq pA (.seq pB (.seq p41 (.seq pC pD))) := by kernel_rfl

def I41 (room most : Int) (O : Option Addr) (n co d : Nat) (F : Nat → Value) (W : World) (a : Act) (W' : World) : Prop :=
  ∃ F', a = ⟨frm room most O n co d F', []⟩ ∧ F' 7 = F 7 ∧ F' 8 = F 8 ∧ F' 9 = F 9 ∧ F' 10 = F 10 ∧ F' 11 = F 11 ∧ F' 12 = F 12 ∧ F' 13 = F 13 ∧ F' 14 = F 14 ∧ F' 15 = F 15 ∧ F' 18 = .int .i64 0 ∧ W' = W
theorem I41_mk {room most : Int} {O : Option Addr} {n co d : Nat} {F : Nat → Value} {W : World} {t : Array Value} (h : slots room most O n co d t) (h7 : t.getD 7 undef = F 7) (h8 : t.getD 8 undef = F 8) (h9 : t.getD 9 undef = F 9) (h10 : t.getD 10 undef = F 10) (h11 : t.getD 11 undef = F 11) (h12 : t.getD 12 undef = F 12) (h13 : t.getD 13 undef = F 13) (h14 : t.getD 14 undef = F 14) (h15 : t.getD 15 undef = F 15) (h18 : t.getD 18 undef = .int .i64 0) : I41 room most O n co d F W ⟨t, []⟩ W :=
  ⟨_, by rw [← frm_of h], h7, h8, h9, h10, h11, h12, h13, h14, h15, h18, rfl⟩
set_option maxRecDepth 100000 in
set_option maxHeartbeats 2000000 in
theorem sg41 (Qx : Exit → Act → World → Prop) (room most : Int) (O : Option Addr) (n co d : Nat) (F : Nat → Value) (W : World) :
    Code.wp Try.prog p41 (Exit.then (I41 room most O n co d F W) Qx) ⟨frm room most O n co d F, []⟩ W := by
  unfold frm
  conv => arg 2; whnf
  go_wp2
  exact I41_mk ⟨rfl, rfl, rfl, rfl, rfl⟩ rfl rfl rfl rfl rfl rfl rfl rfl rfl rfl

theorem sgC (Qx : Exit → Act → World → Prop) (room : Int) (O : Option Addr) (n co d m : Nat) (F : Nat → Value) (w1 W : World) (Q : Nat → Prop) (ob gn cn gs cs : Nat) (v9 : Value) (o : OpV) (A : Ab) (wt : List OpV) (h : HypC w1 Q F W d m ob gn cn gs cs v9 o A wt) :
    Code.wp Try.prog pC (Exit.then (IC room A.room O n co d m F w1 o A wt) Qx) ⟨frm room A.room O n co d F, []⟩ W := by
  by_cases h0 : o.k = 0
  · exact sgC_0 _ _ _ _ _ _ _ _ _ _ _ _ _ _ _ _ _ _ _ _ h h0
  by_cases h1 : o.k = 1
  · exact sgC_1 _ _ _ _ _ _ _ _ _ _ _ _ _ _ _ _ _ _ _ _ h h1
  by_cases h2 : o.k = 2
  · exact sgC_2 _ _ _ _ _ _ _ _ _ _ _ _ _ _ _ _ _ _ _ _ h h2
  by_cases h3 : o.k = 3
  · exact sgC_3 _ _ _ _ _ _ _ _ _ _ _ _ _ _ _ _ _ _ _ _ h h3
  by_cases h4 : o.k = 4
  · obtain ⟨σ, G⟩ := h.many.get (i := 0) (by omega)
    have := G.lenN
    have := G.unr
    have := G.rm
    have := h.hm
    exact sgC_4 _ _ _ _ _ _ _ _ _ _ _ _ _ _ _ _ _ _ _ _ h h4 (by omega) (by omega)
  by_cases h5 : o.k = 5
  · exact sgC_5 _ _ _ _ _ _ _ _ _ _ _ _ _ _ _ _ _ _ _ _ h h5
  by_cases h6 : o.k = 6
  · exact sgC_6 _ _ _ _ _ _ _ _ _ _ _ _ _ _ _ _ _ _ _ _ h h6
  · exact sgC_no _ _ _ _ _ _ _ _ _ _ _ _ _ _ _ _ _ _ _ _ h (by omega)

/-- ahead of a round's piece, or behind one: its number, how many calls at most -/
def RI (room most : Int) (O : Option Addr) (n co d : Nat) (w1 : World) (j m : Nat) (a : Act) (W : World) : Prop :=
  ∃ F Q A wt gn cn gs cs v9, a = ⟨frm room most O n co d F, []⟩ ∧ A.room = most ∧ F 7 = .slice (some ⟨gn, 0, none⟩) A.now.length cn ∧ F 8 = .slice (some ⟨gs, 0, none⟩) A.safe.length cs ∧ F 9 = v9 ∧ F 10 = .int .i64 A.fuse ∧ F 11 = .bool A.off ∧ F 12 = .int .i64 A.steps ∧ F 13 = .int .i64 (j : Nat) ∧
    Lw w1 W Q A wt gn cn gs cs v9 ∧ Mny w1 W Q 1 (fun _ => d) m (fun _ => A)

structure Hyp2 (w1 : World) (Q : Nat → Prop) (F : Nat → Value) (W : World) (d i ob gn cn gs cs : Nat) (v9 : Value) (o : OpV) (A : Ab) (wt : List OpV) : Prop where
  e7 : F 7 = .slice (some ⟨gn, 0, none⟩) A.now.length cn
  e8 : F 8 = .slice (some ⟨gs, 0, none⟩) A.safe.length cs
  e9 : F 9 = v9
  e10 : F 10 = .int .i64 A.fuse
  e11 : F 11 = .bool A.off
  e12 : F 12 = .int .i64 A.steps
  e13 : F 13 = .int .i64 (i : Nat)
  e14 : F 14 = .pointer (some ⟨ob, 0, none⟩)
  e15 : F 15 = .int .i64 0
  e17 : F 17 = .bool (lk A.now o.s).isSome
  hC : Cel W ob 30 (opCells o)
  qo : Q ob
  law : Lw w1 W Q A wt gn cn gs cs v9
  many : Mny w1 W Q 1 (fun _ => d) i (fun _ => A)
  hi : i < 60
  hok : OpOk w1 o
  hb : o.b.length ≤ 300

theorem inner2_wp (Qx : Exit → Act → World → Prop) (room : Int) (O : Option Addr) (n co d i : Nat) (F : Nat → Value) (w1 W : World) (Q : Nat → Prop) (ob gn cn gs cs : Nat) (v9 : Value) (o : OpV) (A : Ab) (wt : List OpV) (h : Hyp2 w1 Q F W d i ob gn cn gs cs v9 o A wt)
    (hQ : ∀ a W', RI room A.room O n co d w1 i (i + 1) a W' → Qx .normal a W' ∧ Qx (.exit 1) a W') :
    Code.wp Try.prog inner2 Qx ⟨frm room A.room O n co d F, []⟩ W := by
  obtain ⟨σ, G⟩ := h.many.get (i := 0) (by omega)
  have hi := h.hi
  have hlN := G.lenN
  have hun := G.unr
  have hrm := G.rm
  have hns := G.ns
  have hcl := G.cl
  have hst := G.st
  have hpl : A.pend.length = wt.length := by rw [h.law.pend, List.length_map]
  rw [inner2_is]
  refine wp_join (sgA _ room O n co d F W ob gn cn o A ⟨h.e7, h.e11, h.e14, h.e15, h.e17, h.hC, h.law.now, by omega, hun, hrm, h.hok.ss, h.hok.ts⟩) ?_
  rintro a W1 ⟨F1, rfl, f7, f8, f9, f10, f11, f12, f13, f14, f15, hf1⟩
  have hC1 : Cel W1 ob 30 (opCells o) := h.hC.of (hf1.block ob h.hC.lt (fun h => h))
  have M1 := h.many.keep hf1
  refine wp_join (sgB Qx room O n co d F1 w1 W1 Q ob gn cn gs cs v9 o A wt ⟨f7.trans h.e7, f8.trans h.e8, f9.trans h.e9, f10.trans h.e10, f11.trans h.e11, f12.trans h.e12, f14.trans h.e14, f15, hC1, h.law.keep hf1, by omega, hun, hrm, h.hok, h.hb, M1.fr, G.fz, by omega, by omega⟩) ?_
  rintro a W2 ⟨F2, gn2, cn2, gs2, cs2, v92, rfl, g7, g8, g9, g10, g11, g12, g13, g14, g15, hf2, law2⟩
  refine wp_join (sg41 Qx room A.room O n co d F2 W2) ?_
  rintro a W3 ⟨F3, rfl, k7, k8, k9, k10, k11, k12, k13, k14, k15, k18, rfl⟩
  have M2 := M1.new hf2
  have hC2 : Cel W3 ob 30 (opCells o) := hC1.of (hf2.block ob hC1.lt (fun h => h))
  refine wp_join (sgC Qx room O n co d i F3 w1 W3 _ ob gn2 cn2 gs2 cs2 v92 o A wt ⟨k7.trans g7, k8.trans g8, k9.trans g9, k10.trans g10, k11.trans g11, k12.trans g12, k14.trans (g14.trans (f14.trans h.e14)), k15.trans g15, k18, hC2, .inl h.qo, law2, M2, by omega, h.hok, h.hb⟩) ?_
  rintro a W4 ⟨F4, Q4, gn4, cn4, gs4, cs4, v94, rfl, l7, l8, l9, l10, l11, l12, l13, l15, l18, law4, M4⟩
  obtain ⟨σ4, G4⟩ := M4.get (i := 0) (by omega)
  have hroom := room_A2 A o
  rw [← hroom]
  refine sgD Qx room O n co d (i + 1) F4 W4 gn4 cn4 (want2 A o) (A2 A o) σ4 ⟨l7, l11, l12, l15, l18, G4, law4.now, by omega⟩ ?_
  intro t' W5 hs m7 m8 m9 m10 m11 m12 m13 hf5
  rw [hroom] at hs
  refine hQ _ _ ⟨fun k => t'.getD k undef, Q4, A2 A o, _, gn4, cn4, gs4, cs4, v94, by rw [← frm_of hs], hroom, m7.trans l7, m8.trans l8, m9.trans l9, m10.trans l10, m11.trans l11, m12.trans l12, ?_, law4.keep hf5, M4.keep hf5⟩
  exact m13.trans (l13.trans (k13.trans (g13.trans (f13.trans h.e13))))

end Go.Proofs.Ytbdmlenapccdnaa
namespace Go.Proofs.Ytbdmlenapccdnaa
open Go.RowKit

noncomputable def a14 : Code := sub [0] inner
noncomputable def a15 : Code := sub [1, 0] inner
noncomputable def a16 : Code := sub [1, 1, 0] inner
noncomputable def a17 : Code := sub [1, 1, 1, 0] inner
noncomputable def a12 : Code := sub [0] body
noncomputable def a13 : Code := sub [1, 1] body
set_option maxRecDepth 100000 in
theorem inner_is : inner = .seq a14 (.seq a15 (.seq a16 (.seq a17 inner2))) := by kernel_rfl
set_option maxRecDepth 100000 in
theorem body_is : body = .seq a12 (.seq (.block 1 inner) a13) := by kernel_rfl

/-- the seven slots that a round hands on -/
def sevn (F' F : Nat → Value) : Prop := F' 7 = F 7 ∧ F' 8 = F 8 ∧ F' 9 = F 9 ∧ F' 10 = F 10 ∧ F' 11 = F 11 ∧ F' 12 = F 12 ∧ F' 13 = F 13
theorem sevn.trans {a b c : Nat → Value} (h : sevn a b) (k : sevn b c) : sevn a c :=
  ⟨h.1.trans k.1, h.2.1.trans k.2.1, h.2.2.1.trans k.2.2.1, h.2.2.2.1.trans k.2.2.2.1, h.2.2.2.2.1.trans k.2.2.2.2.1, h.2.2.2.2.2.1.trans k.2.2.2.2.2.1, h.2.2.2.2.2.2.trans k.2.2.2.2.2.2⟩
/-- a frame that hands the seven on, and more -/
def IS (room most : Int) (O : Option Addr) (n co d : Nat) (F : Nat → Value) (R : (Nat → Value) → World → Prop) (a : Act) (W' : World) : Prop :=
  ∃ F', a = ⟨frm room most O n co d F', []⟩ ∧ sevn F' F ∧ R F' W'
theorem IS_mk {room most : Int} {O : Option Addr} {n co d : Nat} {F : Nat → Value} {R : (Nat → Value) → World → Prop} {W' : World} {t : Array Value} (h : slots room most O n co d t) (hs : sevn (fun k => t.getD k undef) F) (hR : R (fun k => t.getD k undef) W') : IS room most O n co d F R ⟨t, []⟩ W' :=
  ⟨_, by rw [← frm_of h], hs, hR⟩

set_option maxRecDepth 100000 in
set_option maxHeartbeats 2000000 in
theorem sg14 (Qx : Exit → Act → World → Prop) (room most : Int) (b off n co d i : Nat) (F : Nat → Value) (W : World) (o : OpV) (e13 : F 13 = .int .i64 (i : Nat)) (hat : OpAt W b (off + i * 6) o) (hi : i < n) :
    Code.wp Try.prog a14 (Exit.then (IS room most (some ⟨b, off, none⟩) n co d F fun F' W' => F' 14 = .pointer (some ⟨W.heap.size, 0, none⟩) ∧ W' = W.alloc (.cells (opCells o) 30)) Qx) ⟨frm room most (some ⟨b, off, none⟩) n co d F, []⟩ W := by
  obtain ⟨x0, x1, x2, x3, x4, x5⟩ := hat
  have hl : (i : Int) < (n : Int) := by omega
  have E13 := Lib.hid e13
  unfold frm
  rw [e13]
  clear e13
  conv => arg 2; whnf
  go_wp2
  exact IS_mk ⟨rfl, rfl, rfl, rfl, rfl⟩ ⟨rfl, rfl, rfl, rfl, rfl, rfl, E13.out.symm⟩ ⟨rfl, rfl⟩

set_option maxRecDepth 100000 in
set_option maxHeartbeats 2000000 in
theorem sg15 (Qx : Exit → Act → World → Prop) (room most : Int) (O : Option Addr) (n co d ob : Nat) (F : Nat → Value) (W : World) (o : OpV) (e14 : F 14 = .pointer (some ⟨ob, 0, none⟩)) (hC : Cel W ob 30 (opCells o)) (hX : ∀ a, IS room most O n co d F (fun _ _ => True) a W → Qx (.exit 1) a W) :
    Code.wp Try.prog a15 (Exit.then (IS room most O n co d F fun F' W' => F' 14 = .pointer (some ⟨ob, 0, none⟩) ∧ W' = W ∧ o.b.length ≤ 300) Qx) ⟨frm room most O n co d F, []⟩ W := by
  have x1 := hC.cell 1
  have x2 := hC.cell 2
  have x3 := hC.cell 3
  simp [opCells] at x1 x2 x3
  have HX := Lib.hid hX
  clear hX
  by_cases h1 : (300 : Int) < (o.b.length : Int)
  · have d1 : decide ((300 : Int) < (o.b.length : Int)) = true := by simpa using h1
    unfold frm
    rw [e14]
    clear e14 h1
    conv => arg 2; whnf
    go_wp2
    exact HX.out _ (IS_mk ⟨rfl, rfl, rfl, rfl, rfl⟩ ⟨rfl, rfl, rfl, rfl, rfl, rfl, rfl⟩ trivial)
  · have d1 : decide ((300 : Int) < (o.b.length : Int)) = false := by simpa using h1
    have H1 := Lib.hid h1
    by_cases h2 : (100 : Int) < (o.s.size : Int)
    · have d2 : decide ((100 : Int) < (o.s.size : Int)) = true := by simpa using h2
      unfold frm
      rw [e14]
      clear e14 h1 h2
      conv => arg 2; whnf
      go_wp2
      exact HX.out _ (IS_mk ⟨rfl, rfl, rfl, rfl, rfl⟩ ⟨rfl, rfl, rfl, rfl, rfl, rfl, rfl⟩ trivial)
    · have d2 : decide ((100 : Int) < (o.s.size : Int)) = false := by simpa using h2
      by_cases h3 : (100 : Int) < (o.t.size : Int)
      · have d3 : decide ((100 : Int) < (o.t.size : Int)) = true := by simpa using h3
        unfold frm
        rw [e14]
        clear e14 h1 h2 h3
        conv => arg 2; whnf
        go_wp2
        exact HX.out _ (IS_mk ⟨rfl, rfl, rfl, rfl, rfl⟩ ⟨rfl, rfl, rfl, rfl, rfl, rfl, rfl⟩ trivial)
      · have d3 : decide ((100 : Int) < (o.t.size : Int)) = false := by simpa using h3
        unfold frm
        rw [e14]
        clear e14 h1 h2 h3
        conv => arg 2; whnf
        go_wp2
        exact IS_mk ⟨rfl, rfl, rfl, rfl, rfl⟩ ⟨rfl, rfl, rfl, rfl, rfl, rfl, rfl⟩ ⟨rfl, rfl, by have := H1.out; omega⟩

set_option maxRecDepth 100000 in
set_option maxHeartbeats 2000000 in
theorem sg16 (Qx : Exit → Act → World → Prop) (room most : Int) (O : Option Addr) (n co d : Nat) (F : Nat → Value) (W : World) :
    Code.wp Try.prog a16 (Exit.then (IS room most O n co d F fun F' W' => F' 14 = F 14 ∧ F' 15 = .int .i64 0 ∧ W' = W) Qx) ⟨frm room most O n co d F, []⟩ W := by
  unfold frm
  conv => arg 2; whnf
  go_wp2
  exact IS_mk ⟨rfl, rfl, rfl, rfl, rfl⟩ ⟨rfl, rfl, rfl, rfl, rfl, rfl, rfl⟩ ⟨rfl, rfl, rfl⟩

set_option maxRecDepth 100000 in
set_option maxHeartbeats 2000000 in
theorem sg17 (Qx : Exit → Act → World → Prop) (room most : Int) (O : Option Addr) (n co d ob gn cn : Nat) (F : Nat → Value) (W : World) (o : OpV) (L : Fl) (e7 : F 7 = .slice (some ⟨gn, 0, none⟩) L.length cn) (e14 : F 14 = .pointer (some ⟨ob, 0, none⟩)) (hC : Cel W ob 30 (opCells o)) (hN : FlV W gn cn L) (hl : L.length ≤ 1000000) :
    Code.wp Try.prog a17 (Exit.then (IS room most O n co d F fun F' W' => F' 14 = F 14 ∧ F' 15 = F 15 ∧ F' 17 = .bool (lk L o.s).isSome ∧ ∃ q, W' = W.drewN q) Qx) ⟨frm room most O n co d F, []⟩ W := by
  have x1 := hC.cell 1
  simp [opCells] at x1
  have kF := Lib.hid (find_any W gn cn L o.s hN hl)
  have E7 := Lib.hid e7
  unfold frm
  rw [e7, e14]
  clear e7 e14
  conv => arg 2; whnf
  go_wp2_with fail
  refine kF.out.mono ?_
  rintro e w' ⟨rfl, q, rfl⟩
  go_wp2
  exact IS_mk ⟨rfl, rfl, rfl, rfl, rfl⟩ ⟨E7.out.symm, rfl, rfl, rfl, rfl, rfl, rfl⟩ ⟨rfl, rfl, rfl, _, rfl⟩

theorem inner_wp (Qx : Exit → Act → World → Prop) (room most : Int) (O : Option Addr) (os : List OpV) (co d i : Nat) (w1 W : World) (hO : RdO w1 O os) (hi : i < os.length) (hi60 : i < 60) (a : Act) (hR : RI room most O os.length co d w1 i i a W)
    (hQ : ∀ a W', RI room most O os.length co d w1 i (i + 1) a W' → Qx .normal a W' ∧ Qx (.exit 1) a W') :
    Code.wp Try.prog inner Qx a W := by
  obtain ⟨F, Q, A, wt, gn, cn, gs, cs, v9, rfl, rfl, e7, e8, e9, e10, e11, e12, e13, law, M⟩ := hR
  obtain ⟨o, ho⟩ : ∃ o, os[i]? = some o := ⟨_, List.getElem?_eq_getElem hi⟩
  have hok := hO.ok ho
  rcases hO.fr M.fr with hn | ⟨b, off, rfl, hb, hat⟩
  · subst hn; simp at ho
  rw [inner_is]
  refine wp_join (sg14 Qx room A.room b off os.length co d i F W o e13 (hat i o ho).1 hi) ?_
  rintro a W1 ⟨F1, rfl, s1, p14, rfl⟩
  have hfa : Fr (fun _ => False) W (W.alloc (.cells (opCells o) 30)) := Fr.alloc _ _ _
  have hC : Cel (W.alloc (.cells (opCells o) 30)) W.heap.size 30 (opCells o) := heap_alloc_new W _
  have M1 := M.new hfa
  have law1 := (law.keep hfa).sub (Q' := fun k => Q k ∨ (W.heap.size ≤ k ∧ k < (W.alloc (.cells (opCells o) 30)).heap.size)) (fun k hk => .inl hk)
  have again : ∀ F', sevn F' F → RI room A.room (some ⟨b, off, none⟩) os.length co d w1 i (i + 1) ⟨frm room A.room (some ⟨b, off, none⟩) os.length co d F', []⟩ (W.alloc (.cells (opCells o) 30)) := fun F' s =>
    ⟨F', _, A, wt, gn, cn, gs, cs, v9, rfl, rfl, s.1.trans e7, s.2.1.trans e8, s.2.2.1.trans e9, s.2.2.2.1.trans e10, s.2.2.2.2.1.trans e11, s.2.2.2.2.2.1.trans e12, s.2.2.2.2.2.2.trans e13, law1, M1.le (Nat.le_succ _)⟩
  refine wp_join (sg15 Qx room A.room _ os.length co d W.heap.size F1 _ o p14 hC ?_) ?_
  · rintro a ⟨F', rfl, s', _⟩
    exact (hQ _ _ (again F' (s'.trans s1))).2
  rintro a W2 ⟨F2, rfl, s2, q14, rfl, hb3⟩
  refine wp_join (sg16 Qx room A.room _ os.length co d F2 _) ?_
  rintro a W3 ⟨F3, rfl, s3, r14, r15, rfl⟩
  have s123 := s3.trans (s2.trans s1)
  obtain ⟨σ, G⟩ := M.get (i := 0) (by omega)
  have hl := G.lenN
  refine wp_join (sg17 Qx room A.room _ os.length co d W.heap.size gn cn F3 _ o A.now (s123.1.trans e7) (r14.trans q14) hC law1.now (by omega)) ?_
  rintro a W4 ⟨F4, rfl, s4, t14, t15, t17, q, rfl⟩
  have s := s4.trans s123
  have hfq := Fr.drewN (W.alloc (.cells (opCells o) 30)) q (fun _ => False)
  exact inner2_wp Qx room _ os.length co d i F4 w1 _ _ W.heap.size gn cn gs cs v9 o A wt ⟨s.1.trans e7, s.2.1.trans e8, s.2.2.1.trans e9, s.2.2.2.1.trans e10, s.2.2.2.2.1.trans e11, s.2.2.2.2.2.1.trans e12, s.2.2.2.2.2.2.trans e13, t14.trans (r14.trans q14), t15.trans r15, t17, hC.of (hfq.block _ hC.lt (fun h => h)), .inr ⟨Nat.le_refl _, by simp⟩, law1.keep hfq, M1.keep hfq, hi60, hok, hb3⟩ hQ

end Go.Proofs.Ytbdmlenapccdnaa
namespace Go.Proofs.Ytbdmlenapccdnaa
open Go.RowKit

set_option maxRecDepth 100000 in
set_option maxHeartbeats 2000000 in
theorem sg12 (Qx : Exit → Act → World → Prop) (room most : Int) (O : Option Addr) (n co d i : Nat) (F : Nat → Value) (W : World) (e13 : F 13 = .int .i64 (i : Nat)) (hX : ¬ (i < n ∧ i < 60) → ∀ a, IS room most O n co d F (fun _ _ => True) a W → Qx (.exit 0) a W) :
    Code.wp Try.prog a12 (Exit.then (IS room most O n co d F fun _ W' => W' = W ∧ i < n ∧ i < 60) Qx) ⟨frm room most O n co d F, []⟩ W := by
  have HX := Lib.hid hX
  clear hX
  have E13 := Lib.hid e13
  by_cases h1 : i < n
  · have H1 := Lib.hid h1
    have d1 : decide ((i : Int) < (n : Int)) = true := by simpa using h1
    by_cases h2 : i < 60
    · have H2 := Lib.hid h2
      have d2 : decide ((i : Int) < 60) = true := by simp; omega
      unfold frm
      rw [e13]
      clear e13 h1 h2
      conv => arg 2; whnf
      go_wp2
      exact IS_mk ⟨rfl, rfl, rfl, rfl, rfl⟩ ⟨rfl, rfl, rfl, rfl, rfl, rfl, E13.out.symm⟩ ⟨rfl, H1.out, H2.out⟩
    · have H2 := Lib.hid h2
      have d2 : decide ((i : Int) < 60) = false := by simp; omega
      unfold frm
      rw [e13]
      clear e13 h1 h2
      conv => arg 2; whnf
      go_wp2
      exact HX.out (fun h => H2.out h.2) _ (IS_mk ⟨rfl, rfl, rfl, rfl, rfl⟩ ⟨rfl, rfl, rfl, rfl, rfl, rfl, E13.out.symm⟩ trivial)
  · have H1 := Lib.hid h1
    have d1 : decide ((i : Int) < (n : Int)) = false := by simpa using h1
    unfold frm
    rw [e13]
    clear e13 h1
    conv => arg 2; whnf
    go_wp2
    exact HX.out (fun h => H1.out h.1) _ (IS_mk ⟨rfl, rfl, rfl, rfl, rfl⟩ ⟨rfl, rfl, rfl, rfl, rfl, rfl, E13.out.symm⟩ trivial)

set_option maxRecDepth 100000 in
set_option maxHeartbeats 2000000 in
theorem sg13 (Qx : Exit → Act → World → Prop) (room most : Int) (O : Option Addr) (n co d i m : Nat) (a : Act) (w1 W : World) (hi : i < 60) (hR : RI room most O n co d w1 i m a W) (hQ : ∀ a, RI room most O n co d w1 (i + 1) m a W → a.tmps.getD 13 undef = .int .i64 ((i + 1 : Nat) : Int) → Qx .normal a W) :
    Code.wp Try.prog a13 Qx a W := by
  obtain ⟨F, Q, A, wt, gn, cn, gs, cs, v9, rfl, hr, e7, e8, e9, e10, e11, e12, e13, law, M⟩ := hR
  have HQ := Lib.hid hQ
  have fin : ∀ t : Array Value, slots room most O n co d t → t.getD 7 undef = F 7 → t.getD 8 undef = F 8 → t.getD 9 undef = F 9 → t.getD 10 undef = F 10 → t.getD 11 undef = F 11 → t.getD 12 undef = F 12 → t.getD 13 undef = .int .i64 ((i + 1 : Nat) : Int) → Qx .normal ⟨t, []⟩ W := fun t hs h7 h8 h9 h10 h11 h12 h13 =>
    HQ.out _ ⟨fun k => t.getD k undef, Q, A, wt, gn, cn, gs, cs, v9, by rw [← frm_of hs], hr, h7.trans e7, h8.trans e8, h9.trans e9, h10.trans e10, h11.trans e11, h12.trans e12, h13, law, M⟩ h13
  have FIN := Lib.hid fin
  clear fin hQ
  unfold frm
  rw [e13]
  clear e7 e8 e9 e10 e11 e12 e13
  conv => arg 2; whnf
  go_wp2
  exact FIN.out _ ⟨rfl, rfl, rfl, rfl, rfl⟩ rfl rfl rfl rfl rfl rfl (by show Value.int .i64 ((i : Int) + 1) = _; go_num)

theorem lit0 (w : World) (e : TypeId) (sz g : Nat) (hg : g = w.heap.size) : (w.alloc (.cells #[] e)).ownsRow 0 e sz (.slice (some ⟨g, 0, none⟩) 0 0) 0 [] := by
  subst hg
  exact ⟨by simp, .inr ⟨w.heap.size, 0, #[], rfl, Nat.zero_le _, heap_alloc_new w _, Nat.le_refl _, Nat.zero_le _, by simp, by simp⟩⟩
theorem RI_start {room : Int} {O : Option Addr} {n co d : Nat} {w1 w2 : World} {t : Array Value} (h2 : Mny w1 w2 (fun _ => False) 1 (fun _ => d) 0 (fun _ => newA room)) (hs : slots room (newA room).room O n co d t) (h7 : t.getD 7 undef = .slice (some ⟨w2.heap.size, 0, none⟩) 0 0) (h8 : t.getD 8 undef = .slice (some ⟨w2.heap.size + 1, 0, none⟩) 0 0) (h9 : t.getD 9 undef = .slice (some ⟨w2.heap.size + 2, 0, none⟩) 0 0)
    (h10 : t.getD 10 undef = .int .i64 0) (h11 : t.getD 11 undef = .bool false) (h12 : t.getD 12 undef = .int .i64 0) (h13 : t.getD 13 undef = .int .i64 0) :
    RI room (newA room).room O n co d w1 0 0 ⟨t, []⟩ (((w2.alloc (.cells #[] 49)).alloc (.cells #[] 49)).alloc (.cells #[] 30)) := by
  have hf : Fr (fun _ => False) w2 (((w2.alloc (.cells #[] 49)).alloc (.cells #[] 49)).alloc (.cells #[] 30)) := ((Fr.alloc _ _ _).trans (Fr.alloc _ _ _)).trans (Fr.alloc _ _ _)
  have hsz : (((w2.alloc (.cells #[] 49)).alloc (.cells #[] 49)).alloc (.cells #[] 30)).heap.size = w2.heap.size + 3 := by simp
  refine ⟨fun k => t.getD k undef, _, newA room, [], w2.heap.size, 0, w2.heap.size + 1, 0, .slice (some ⟨w2.heap.size + 2, 0, none⟩) 0 0, by rw [← frm_of hs], rfl, h7, h8, h9, h10, h11, h12, h13, ⟨?_, ?_, ?_, ?_, ?_, ?_, rfl, (fun o h => by cases h)⟩, h2.new hf⟩
  · exact ((lit0 w2 49 2 _ rfl).alloc _).alloc _
  · exact .inr ⟨Nat.le_refl _, by rw [hsz]; omega⟩
  · exact (lit0 (w2.alloc (.cells #[] 49)) 49 2 _ (by simp)).alloc _
  · exact .inr ⟨by omega, by rw [hsz]; omega⟩
  · exact lit0 ((w2.alloc (.cells #[] 49)).alloc (.cells #[] 49)) 30 6 _ (by simp)
  · intro k e
    have : k = w2.heap.size + 2 := by simpa [Value.ownBlock] using e.symm
    exact .inr ⟨by omega, by rw [hsz]; omega⟩

set_option maxRecDepth 100000 in
set_option maxHeartbeats 2000000 in
theorem diskRuns_law (room : Int) (os : List OpV) (O : Option Addr) (co : Nat) (w : World) (hO : RdO w O os) :
    Calls Try.prog 3 #[.int .i64 room, .slice O os.length co] w fun e w' => e = .returned (.bool true) ∧ Fr (fun _ => False) w w' := by
  have HO := Lib.hid hO
  clear hO
  go_enter Try.func3, Try.ntmps3
  go_wp2_with fail
  refine (head4_any w).mono ?_
  rintro e w1 ⟨rfl, hf1⟩
  go_wp2_with fail
  refine (New_many (Mny.none w1 0 (fun _ => 0) (fun _ => newA 0)) room).mono ?_
  rintro e w2 ⟨rfl, h2, hf2⟩
  have H2 := Lib.hid (h2.congr (D' := fun _ => w1.heap.size) (As' := fun _ => newA room) (fun i hi => by rw [if_pos (by omega)]) (fun i hi => by rw [if_pos (by omega)]))
  clear h2
  go_upto_block 0 with fail
  rename_i hKK
  refine wp_block ?_
  refine wp_loop (fun a W => ∃ i : Nat, i ≤ 60 ∧ RI room (newA room).room O os.length co w1.heap.size w1 i i a W ∧ a.tmps.getD 13 undef = .int .i64 (i : Nat)) (fun a _ => 60 - (intOf (a.tmps.getD 13 undef)).toNat) ?_ ?_
  · exact ⟨0, by omega, RI_start H2.out ⟨rfl, rfl, rfl, rfl, rfl⟩ rfl rfl rfl rfl rfl rfl rfl, rfl⟩
  · rintro a W ⟨i, hi, hR, h13⟩
    show Code.wp Try.prog body _ a W
    rw [body_is]
    have hR' := hR
    obtain ⟨F, Q, A, wt, gn, cn, gs, cs, v9, rfl, hr, e7, e8, e9, e10, e11, e12, e13, law, M⟩ := hR
    refine wp_join (sg12 _ room (newA room).room O os.length co w1.heap.size i F W e13 ?_) ?_
    · rintro _ a ⟨F', rfl, _, _⟩
      refine hKK _ _ ?_
      have hfin := hf1.trans M.fr
      clear law M hR' hKK e7 e8 e9 e10 e11 e12 e13
      unfold frm
      go_wp2
      go_ret
      exact ⟨rfl, hfin⟩
    · rintro a W1 ⟨F1, rfl, s, rfl, hin, hi60⟩
      have hR1 : RI room (newA room).room O os.length co w1.heap.size w1 i i ⟨frm room (newA room).room O os.length co w1.heap.size F1, []⟩ W1 := ⟨F1, Q, A, wt, gn, cn, gs, cs, v9, rfl, hr, s.1.trans e7, s.2.1.trans e8, s.2.2.1.trans e9, s.2.2.2.1.trans e10, s.2.2.2.2.1.trans e11, s.2.2.2.2.2.1.trans e12, s.2.2.2.2.2.2.trans e13, law, M⟩
      have hend : ∀ a W', RI room (newA room).room O os.length co w1.heap.size w1 i (i + 1) a W' → Code.wp Try.prog a13 (Exit.then (fun a' w' => (∃ i : Nat, i ≤ 60 ∧ RI room (newA room).room O os.length co w1.heap.size w1 i i a' w' ∧ a'.tmps.getD 13 undef = .int .i64 (i : Nat)) ∧ 60 - (intOf (a'.tmps.getD 13 undef)).toNat < 60 - (intOf (Value.int .i64 (i : Nat))).toNat) (fun _ _ _ => False)) a W' := by
        intro a W' h
        refine sg13 _ room (newA room).room O os.length co w1.heap.size i (i + 1) a w1 W' hi60 h ?_
        intro a' h' h13'
        refine ⟨⟨i + 1, by omega, h', h13'⟩, ?_⟩
        rw [h13']
        exact meas hi60
      refine wp_join (I := RI room (newA room).room O os.length co w1.heap.size w1 i (i + 1)) (wp_block (inner_wp _ room (newA room).room O os co w1.heap.size i w1 W1 (HO.out.fr hf1) hin hi60 _ hR1 ?_)) ?_
      · intro a W' h
        exact ⟨h, h⟩
      · intro a W' h
        refine wp_mono (hend a W' h) ?_
        intro e a w hq
        cases e with
        | normal => rw [h13]; exact hq
        | _ => exact hq.elim

end Go.Proofs.Ytbdmlenapccdnaa
