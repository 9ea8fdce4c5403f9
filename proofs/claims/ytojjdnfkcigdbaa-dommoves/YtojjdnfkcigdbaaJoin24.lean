/- A round of the laws of layer 8. The contract of play. The law of DomMoves. The last step of a law's row: it returns true, and all that lay there lies as it lay. A slice of integers that comes in, opened. -/
import Derived.Test.YtojjdnfkcigdbaaIp
import Derived.Test.YtojjdnfkcigdbaaIo1
import Derived.Test.YtojjdnfkcigdbaaIo2
import Derived.Test.YtojjdnfkcigdbaaIo3
import Derived.Deep.DeepCutAuto
import Derived.ProofKit
import Derived.Below
import Derived.Carry
import Derived.ChangeSame
import Derived.OpenShut
import Derived.Test.YtojjdnfkcigdbaaJoin0
namespace Go.Proofs.Ytojjdnfkcigdbaa
open Go.RowKit Go.Shelf Go.Lib

theorem wp_joinL {P : Program} {a b : Code} {I : Act → World → Prop} {Q : Exit → Act → World → Prop} {s : Act} {w : World} (h : Code.wp P a (Exit.then I Q) s w) (hb : ∀ s w, I s w → Code.wp P b Q s w) : Code.wp P (.seq a b) Q s w :=
  wp_seq (wp_mono h (by
    intro e a w hq
    cases e with
    | normal => exact hb _ _ hq
    | _ => exact hq))
/-- the switch, whatever the step -/
theorem sw_any (Q : Exit → Act → World → Prop) (w1 W : World) (D : Nat) (v va : Value) (ns : List Nd) (os : List Ow) (m : Nat) (t : Array Value) (hs : t.size = 277) (ob : Nat) (o : OpD) (a b c : Int) (h : HS w1 D v ns va os m (fun k => t.getD k undef) ob o a b c W)
    (hQ : ∀ t' W', PSw w1 D m (fun k => t.getD k undef) t' W' → Q .normal ⟨t', []⟩ W') : Code.wp Try.prog plS Q ⟨t, []⟩ W := by
  rw [frm277_of hs]
  by_cases k0 : o.k = 0
  · exact sw_0 _ _ _ _ _ _ _ _ _ _ _ _ _ _ _ h k0 hQ
  by_cases k1 : o.k = 1
  · exact sw_1 _ _ _ _ _ _ _ _ _ _ _ _ _ _ _ h k1 hQ
  by_cases k2 : o.k = 2
  · exact sw_2 _ _ _ _ _ _ _ _ _ _ _ _ _ _ _ h k2 hQ
  by_cases k3 : o.k = 3
  · by_cases h1 : (os.length : Int) ≤ a
    · exact sw_3a _ _ _ _ _ _ _ _ _ _ _ _ _ _ _ h k3 h1 hQ
    · by_cases h2 : o.s.toList = []
      · exact sw_3b _ _ _ _ _ _ _ _ _ _ _ _ _ _ _ h k3 (by omega) h2 hQ
      · by_cases h3 : c = -1
        · exact NQ.lift (sw_3n _ _ _ _ _ _ _ _ _ _ _ _ _ _ h k3 (by omega) h2 h3) hQ
        · by_cases h4 : Lib.idxOf (pAt (os.map Ow.pl) a Pl.kids []) c < 0
          · exact sw_3c _ _ _ _ _ _ _ _ _ _ _ _ _ _ _ h k3 (by omega) h2 h3 h4 hQ
          · exact NQ.lift (sw_3p _ _ _ _ _ _ _ _ _ _ _ _ _ _ h k3 (by omega) h2 h3 (by omega)) hQ
  by_cases k4 : o.k = 4
  · exact sw_4 _ _ _ _ _ _ _ _ _ _ _ _ _ _ _ h k4 hQ
  exact sw_no _ _ _ _ _ _ _ _ _ _ _ _ _ _ _ h (by omega) hQ
/-- the six cells of a step -/
structure OpAt (W : World) (b off : Nat) (o : OpD) : Prop where
  c0 : W.cell? ⟨b, off, none⟩ = some (.int .i64 o.k)
  c1 : W.cell? ⟨b, off + 1, none⟩ = some (.int .i64 o.a)
  c2 : W.cell? ⟨b, off + 2, none⟩ = some (.int .i64 o.b)
  c3 : W.cell? ⟨b, off + 3, none⟩ = some (.int .i64 o.c)
  c4 : W.cell? ⟨b, off + 4, none⟩ = some (.int .i64 o.n)
  c5 : W.cell? ⟨b, off + 5, none⟩ = some (.string o.s)
def RdO (w : World) (A : Option Addr) (ops : List OpD) : Prop := ops = [] ∨ ∃ b off, A = some ⟨b, off, none⟩ ∧ b < w.heap.size ∧ ∀ i o, ops[i]? = some o → OpAt w b (off + i * 6) o
theorem RdO.below {w w' : World} {A : Option Addr} {ops : List OpD} (h : RdO w A ops) (hb : Below w.heap.size w w') : RdO w' A ops := by
  rcases h with h | ⟨b, off, e, hlt, h⟩
  · exact .inl h
  · refine .inr ⟨b, off, e, Nat.lt_of_lt_of_le hlt hb.size, fun i o ho => ?_⟩
    obtain ⟨c0, c1, c2, c3, c4, c5⟩ := h i o ho
    exact ⟨(hb.cell (p := ⟨b, _, none⟩) hlt).trans c0, (hb.cell (p := ⟨b, _, none⟩) hlt).trans c1, (hb.cell (p := ⟨b, _, none⟩) hlt).trans c2, (hb.cell (p := ⟨b, _, none⟩) hlt).trans c3, (hb.cell (p := ⟨b, _, none⟩) hlt).trans c4, (hb.cell (p := ⟨b, _, none⟩) hlt).trans c5⟩
/-- a round's frame: the steps, the tree, its own list, how far -/
def RS (w1 : World) (D : Nat) (O : Option Addr) (n co : Nat) (j m : Nat) (a : Act) (W : World) : Prop :=
  ∃ F v ns os, a = ⟨frm277 F, []⟩ ∧ F 0 = .slice O n co ∧ F 5 = .pointer (some ⟨D, 0, none⟩) ∧ F 7 = .int .i64 (j : Nat) ∧ St w1 D v ns (F 6) os m W
theorem mod_ok (x : Int) (L : Nat) (hL : L ≤ 1000) : ∃ a, (bits BinOp.and IntKind.i64 x 65535).tmod ((L : Int) + 2) = a ∧ 0 ≤ a ∧ a < (L : Int) + 2 := by
  rw [and65L]
  have h0 : (0 : Int) ≤ x % 65536 := by omega
  rw [Int.tmod_eq_emod_of_nonneg h0]
  exact ⟨_, rfl, Int.emod_nonneg _ (by omega), Int.emod_lt_of_pos _ (by omega)⟩
set_option maxRecDepth 100000 in
set_option maxHeartbeats 4000000 in
theorem plB_wp (Q : Exit → Act → World → Prop) (w1 W : World) (D : Nat) (O : Option Addr) (co i : Nat) (ops : List OpD) (a : Act) (hO : RdO w1 O ops) (hi : i < ops.length) (hi60 : i < 60) (hR : RS w1 D O ops.length co i i a W)
    (hQ : ∀ a' W', RS w1 D O ops.length co i (i + 1) a' W' → Q .normal a' W' ∧ Q (.exit 1) a' W') : Code.wp Try.prog plB Q a W := by
  obtain ⟨F, v, ns, os, rfl, e0, e5, e7, st⟩ := hR
  obtain ⟨o, ho⟩ : ∃ o, ops[i]? = some o := ⟨_, List.getElem?_eq_getElem hi⟩
  have hO2 := hO.below st.bw
  obtain ⟨b, off, rfl, hb, hat⟩ : ∃ b off, O = some ⟨b, off, none⟩ ∧ b < W.heap.size ∧ OpAt W b (off + i * 6) o := by
    rcases hO2 with h | ⟨b, off, e, hb, h⟩
    · rw [h] at hi; simp at hi
    · exact ⟨b, off, e, hb, h i o ho⟩
  obtain ⟨x0, x1, x2, x3, x4, x5⟩ := hat
  obtain ⟨va, hva⟩ : ∃ va, F 6 = va := ⟨_, rfl⟩
  rw [hva] at st
  obtain ⟨Av, cv, hv, _, _, _⟩ := st.own.sl
  subst hv
  have hle := st.len
  have HQ := Lib.hid hQ
  have HST := Lib.hid st
  have hob : ∀ o1, (W.alloc o1).heap[W.heap.size]? = some o1 := fun o1 => heap_alloc_new W o1
  have HOB := Lib.hid hob
  have dil : decide ((i : Int) < (ops.length : Int)) = true := decide_eq_true (by omega)
  clear hQ st ho hO hO2 hob hb
  obtain ⟨av, hav, ha0, ha1⟩ := mod_ok o.a os.length (by omega)
  obtain ⟨bv, hbv, hb0, hb1⟩ := mod_ok o.b os.length (by omega)
  obtain ⟨cc, hcc, hc0, hc1⟩ := mod_ok o.c os.length (by omega)
  have cb := HOB.out (.cells o.cs 79)
  have ha0' := Lib.hid ha0
  have hb0' := Lib.hid hb0
  have hc0' := Lib.hid hc0
  have FBW := Lib.hid (show Below W.heap.size W (W.alloc (.cells o.cs 79)) from (Below.refl _ W).alloc (Nat.le_refl _) _)
  have HDN := Lib.hid (show ¬ DB D v ns W.heap.size from fun e => by have := (HST.out.doc.in_ _ e).2; omega)
  have HON := Lib.hid (show ¬ OB (.slice Av os.length cv) os W.heap.size from fun e => by have := (HST.out.own.in_ _ e).2; omega)
  have CB := Lib.hid cb
  have HBS := Lib.hid HST.out.bw.size
  have SW : ∀ (t : Array Value), t.size = 277 → t.getD 0 undef = .slice (some ⟨b, off, none⟩) ops.length co → t.getD 5 undef = .pointer (some ⟨D, 0, none⟩) → t.getD 6 undef = .slice Av os.length cv → t.getD 7 undef = .int .i64 (i : Nat) → t.getD 8 undef = .pointer (some ⟨W.heap.size, 0, none⟩) → t.getD 10 undef = .int .i64 av → t.getD 11 undef = .int .i64 bv → (∃ c, t.getD 12 undef = .int .i64 c ∧ -1 ≤ c ∧ c < os.length) → t.getD 65 undef = .int .i64 o.k → o.s.size ≤ 50 →
      ∀ (Q' : Exit → Act → World → Prop), (∀ a' W', RS w1 D (some ⟨b, off, none⟩) ops.length co i (i + 1) a' W' → Q' .normal a' W') → Code.wp Try.prog plS Q' ⟨t, []⟩ (W.alloc (.cells o.cs 79)) := by
    intro t hs t0 t5 t6 t7 t8 t10 t11 ⟨c, t12, c0, c1⟩ t65 hsz Q' hQ'
    refine sw_any Q' w1 _ D v (.slice Av os.length cv) ns os i t hs W.heap.size o av bv c ⟨HST.out.below FBW.out, t5, t6, t8, t10, t11, t12, t65, CB.out, HBS.out, HDN.out, HON.out, ha0'.out, hb0'.out, ⟨c0, c1⟩, hsz, hi60⟩ ?_
    rintro t' W' ⟨s', u0, u5, u7, v', ns', os', hst'⟩
    exact hQ' _ _ ⟨fun k => t'.getD k undef, v', ns', os', by rw [← frm277_of s'], u0.trans t0, u5, u7.trans t7, hst'⟩
  have HSW := Lib.hid SW
  have HC := Lib.hid hc1
  clear cb SW hc1 ha0 ha1 hb0 hb1 hc0
  by_cases h50 : (50 : Int) < (o.s.size : Int)
  · have d50 : decide ((50 : Int) < (o.s.size : Int)) = true := decide_eq_true h50
    have HRS : Hid (∀ t : Array Value, t.size = 277 → t.getD 0 undef = .slice (some ⟨b, off, none⟩) ops.length co → t.getD 5 undef = .pointer (some ⟨D, 0, none⟩) → t.getD 6 undef = .slice Av os.length cv → t.getD 7 undef = .int .i64 (i : Nat) → RS w1 D (some ⟨b, off, none⟩) ops.length co i (i + 1) ⟨t, []⟩ (W.alloc (.cells o.cs 79))) := Lib.hid (fun t hs t0 t5 t6 t7 => ⟨fun k => t.getD k undef, v, ns, os, by rw [← frm277_of hs], t0, t5, t7, by show St _ _ _ _ (t.getD 6 undef) _ _ _; rw [t6]; exact (HST.out.below FBW.out).more⟩)
    unfold frm277
    rw [e0, e5, hva, e7]
    clear e0 e5 hva e7 h50
    conv => arg 2; whnf
    go_wp2
    exact (HQ.out _ _ (HRS.out _ rfl rfl rfl rfl rfl)).2
  · have d50 : decide ((50 : Int) < (o.s.size : Int)) = false := decide_eq_false h50
    have H50 : Hid (o.s.size ≤ 50) := Lib.hid (by omega)
    by_cases hcl : cc < (os.length : Int)
    · have hcl2 : ¬ (os.length : Int) ≤ cc := by omega
      unfold frm277
      rw [e0, e5, hva, e7]
      clear e0 e5 hva e7 h50
      conv => arg 2; whnf
      go_upto_block 2 with fail
      change Code.wp Try.prog plS _ _ _
      exact HSW.out _ rfl rfl rfl rfl rfl rfl rfl rfl ⟨cc, rfl, by have := hc0'.out; omega, hcl⟩ rfl H50.out _ (fun a' W' h => (HQ.out _ _ h).1)
    · have hcl2 : (os.length : Int) ≤ cc := by omega
      unfold frm277
      rw [e0, e5, hva, e7]
      clear e0 e5 hva e7 h50
      conv => arg 2; whnf
      go_upto_block 2 with fail
      change Code.wp Try.prog plS _ _ _
      exact HSW.out _ rfl rfl rfl rfl rfl rfl rfl rfl ⟨-1, rfl, by omega, by omega⟩ rfl H50.out _ (fun a' W' h => (HQ.out _ _ h).1)
end Go.Proofs.Ytojjdnfkcigdbaa
namespace Go.Proofs.Ytojjdnfkcigdbaa
open Go.RowKit Go.Shelf Go.Lib

noncomputable def plL : Code := subC [1, 1, 1, 0, 1, 2, 2] (Try.f11.body.getD .skip)
noncomputable def pl4 : Code := subC [0] plL
noncomputable def pl5 : Code := subC [1, 1] plL
set_option maxRecDepth 100000 in
theorem plL_is : plL = .seq pl4 (.seq (.block 1 plB) pl5) := by kernel_rfl
theorem RS.mk_ {w1 W : World} {D : Nat} {O : Option Addr} {n co j m : Nat} {v va : Value} {ns : List Nd} {os : List Ow} {t : Array Value} (hs : t.size = 277) (t0 : t.getD 0 undef = .slice O n co) (t5 : t.getD 5 undef = .pointer (some ⟨D, 0, none⟩)) (t6 : t.getD 6 undef = va) (t7 : t.getD 7 undef = .int .i64 (j : Nat)) (h : St w1 D v ns va os m W) : RS w1 D O n co j m ⟨t, []⟩ W :=
  ⟨fun k => t.getD k undef, v, ns, os, by rw [← frm277_of hs], t0, t5, t7, by show St _ _ _ _ (t.getD 6 undef) _ _ _; rw [t6]; exact h⟩
set_option maxRecDepth 100000 in
set_option maxHeartbeats 2000000 in
theorem pl4_wp (Q : Exit → Act → World → Prop) (w1 W : World) (D : Nat) (O : Option Addr) (n co i m : Nat) (a : Act) (hR : RS w1 D O n co i m a W) (hQ : ∀ a, RS w1 D O n co i m a W → i < n → i < 60 → Q .normal a W) (hX : ∀ a, RS w1 D O n co i m a W → Q (.exit 0) a W) : Code.wp Try.prog pl4 Q a W := by
  obtain ⟨F, v, ns, os, rfl, e0, e5, e7, st⟩ := hR
  obtain ⟨va, hva⟩ : ∃ va, F 6 = va := ⟨_, rfl⟩
  rw [hva] at st
  have HX := Lib.hid hX
  have HQ := Lib.hid hQ
  have HST := Lib.hid st
  clear hX hQ st
  by_cases h1 : i < n
  · have H1 := Lib.hid h1
    have d1 : decide ((i : Int) < (n : Int)) = true := by simpa using h1
    by_cases h2 : i < 60
    · have H2 := Lib.hid h2
      have d2 : decide ((i : Int) < 60) = true := by simp; omega
      unfold frm277
      rw [e0, e5, hva, e7]
      clear e0 e5 hva e7
      conv => arg 2; whnf
      go_wp2
      refine HQ.out _ ?_ H1.out H2.out
      exact RS.mk_ rfl rfl rfl rfl rfl HST.out
    · have d2 : decide ((i : Int) < 60) = false := by simp; omega
      unfold frm277
      rw [e0, e5, hva, e7]
      clear e0 e5 hva e7
      conv => arg 2; whnf
      go_wp2
      refine HX.out _ ?_
      exact RS.mk_ rfl rfl rfl rfl rfl HST.out
  · have d1 : decide ((i : Int) < (n : Int)) = false := by simpa using h1
    unfold frm277
    rw [e0, e5, hva, e7]
    clear e0 e5 hva e7
    conv => arg 2; whnf
    go_wp2
    refine HX.out _ ?_
    exact RS.mk_ rfl rfl rfl rfl rfl HST.out
set_option maxRecDepth 100000 in
set_option maxHeartbeats 2000000 in
theorem pl5_wp (Q : Exit → Act → World → Prop) (w1 W : World) (D : Nat) (O : Option Addr) (n co i m : Nat) (a : Act) (hi : i < 60) (hR : RS w1 D O n co i m a W) (hQ : ∀ a, RS w1 D O n co (i + 1) m a W → a.tmps.getD 7 undef = .int .i64 ((i + 1 : Nat) : Int) → Q .normal a W) : Code.wp Try.prog pl5 Q a W := by
  obtain ⟨F, v, ns, os, rfl, e0, e5, e7, st⟩ := hR
  obtain ⟨va, hva⟩ : ∃ va, F 6 = va := ⟨_, rfl⟩
  rw [hva] at st
  have HQ := Lib.hid hQ
  have HST := Lib.hid st
  clear hQ st
  unfold frm277
  rw [e0, e5, hva, e7]
  clear e0 e5 hva e7
  conv => arg 2; whnf
  go_wp2
  refine HQ.out _ ?_ ?_
  · exact RS.mk_ rfl rfl rfl rfl (by show Value.int .i64 ((i : Int) + 1) = _; go_num) HST.out
  · show Value.int .i64 ((i : Int) + 1) = _
    go_num
theorem measL {i : Nat} (hi : i < 60) : 60 - (RowKit.intOf (Value.int .i64 ((i + 1 : Nat) : Int))).toNat < 60 - (RowKit.intOf (Value.int .i64 (i : Nat))).toNat := by
  simp [RowKit.intOf]
  omega
/-- the page alone -/
theorem st_start {w1 W : World} {D : Nat} {v va : Value} (hd : DocM w1.heap.size D v false [pageNd] W) (ho : OwM w1.heap.size va [Ow.mk ⟨1, ⟨#[]⟩, ⟨#[]⟩, -1, [], -1⟩ (.slice none 0 0)] W) (hdis : ∀ k, DB D v [pageNd] k → va.ownBlock ≠ some k) (hb : Below w1.heap.size w1 W) : St w1 D v [pageNd] va [Ow.mk ⟨1, ⟨#[]⟩, ⟨#[]⟩, -1, [], -1⟩ (.slice none 0 0)] 0 W := by
  refine ⟨hd, ho, rfl, fun k hk e => ?_, ?_, hb, by simp, by simp, fun x hx => ?_, fun r hr => ?_⟩
  · rcases e with e | ⟨i, x, hx, e⟩
    · exact hdis k hk e
    · match i, hx with
      | 0, hx => simp at hx; subst hx; cases e
      | i + 1, hx => simp at hx
  · have he : Tr ([] : List Pl) := by
      constructor
      all_goals first | (intro i x hx; simp at hx) | (intro i hi; simp at hi)
    have := tr_push (xs := [⟨1, ⟨#[]⟩, ⟨#[]⟩, -1, [], -1⟩]) he (fun j x hx => by
      match j, hx with
      | 0, hx => simp at hx; subst hx; exact ⟨rfl, rfl, (show (1 : Int) ≤ 1 by omega), .inl rfl⟩
      | j + 1, hx => simp at hx) (by simp)
    exact this
  · simp at hx
    subst hx
    exact Nat.zero_le _
  · simp at hr
    subst hr
    rfl
set_option maxRecDepth 100000 in
set_option maxHeartbeats 4000000 in
theorem play_any (ops : List OpD) (O : Option Addr) (co : Nat) (w : World) (hO : RdO w O ops) :
    Calls Try.prog 11 #[.slice O ops.length co] w fun e w' => ∃ D v ns va os, e = .returned (.tuple #[.pointer (some ⟨D, 0, none⟩), va, .bool true]) ∧ St w D v ns va os 60 w' := by
  have HO := Lib.hid hO
  have KN := Lib.hid (New_any w)
  clear hO
  go_enter Try.func11, Try.ntmps11
  go_wp2_with fail
  refine KN.out.mono ?_
  rintro e W1 ⟨D, v, rfl, hd, hb1⟩
  have hs1 := hb1.size
  have FB : ∀ o1 : Obj, Below W1.heap.size W1 (W1.alloc o1) := fun o1 => (Below.refl _ W1).alloc (Nat.le_refl _) _
  have HST : Hid (St w D v [pageNd] (.slice (some ⟨W1.heap.size, 0, none⟩) 1 1) [Ow.mk ⟨1, ⟨#[]⟩, ⟨#[]⟩, -1, [], -1⟩ (.slice none 0 0)] 0 (W1.alloc (.cells #[.int .i64 1, .string ⟨#[]⟩, .string ⟨#[]⟩, .int .i64 (-1), .slice none 0 0, .int .i64 (-1)] 39))) := Lib.hid (by
    refine st_start (hd.below (FB _)) ⟨?_, fun i x hx => ?_⟩ (fun k hk e => ?_) (hb1.alloc hs1 _)
    · refine ⟨by simp [cellsO, Ow.cs], .inr ⟨W1.heap.size, 1, _, rfl, hs1, heap_alloc_new W1 _, Nat.le_refl _, by decide, rfl, rfl⟩⟩
    · match i, hx with
      | 0, hx => simp at hx; subst hx; exact World.ownsRow_nil _ _ _ _
      | i + 1, hx => simp at hx
    · have := (hd.in_ k hk).2
      simp [Value.ownBlock] at e
      omega)
  clear hd hb1 hs1 FB KN
  go_upto_block 0 with fail
  rename_i hKK
  refine wp_block ?_
  refine wp_loop (fun a W => ∃ i : Nat, i ≤ 60 ∧ RS w D O ops.length co i i a W ∧ a.tmps.getD 7 undef = .int .i64 (i : Nat)) (fun a _ => 60 - (RowKit.intOf (a.tmps.getD 7 undef)).toNat) ?_ ?_
  · exact ⟨0, by omega, RS.mk_ rfl rfl rfl rfl rfl HST.out, rfl⟩
  · rintro a W ⟨i, hi, hR, h7⟩
    change Code.wp Try.prog plL _ a W
    rw [plL_is]
    refine wp_joinL (I := fun a W' => RS w D O ops.length co i i a W' ∧ i < ops.length ∧ i < 60) (pl4_wp _ w W D O ops.length co i i a hR (fun a h h1 h2 => ⟨h, h1, h2⟩) ?_) ?_
    · intro a h
      refine hKK _ _ ?_
      obtain ⟨F, v', ns', os', rfl, e0, e5, e7, st⟩ := h
      obtain ⟨va, hva⟩ : ∃ va, F 6 = va := ⟨_, rfl⟩
      rw [hva] at st
      have HST2 : Hid (St w D v' ns' va os' 60 W) := Lib.hid ⟨st.doc, st.own, st.eq, st.dis, st.tr, st.bw, by have := st.len; omega, st.pos, fun x hx => by have := st.dat x hx; omega, st.rst⟩
      clear st hKK hR
      unfold frm277
      rw [e0, e5, hva, e7]
      clear e0 e5 hva e7
      go_wp2
      go_ret3
      exact ⟨D, v', ns', va, os', rfl, HST2.out⟩
    · rintro a W2 ⟨hR2, hin, hi60⟩
      have hend : ∀ a W', RS w D O ops.length co i (i + 1) a W' → Code.wp Try.prog pl5 (Exit.then (fun a' w' => (∃ i : Nat, i ≤ 60 ∧ RS w D O ops.length co i i a' w' ∧ a'.tmps.getD 7 undef = .int .i64 (i : Nat)) ∧ 60 - (RowKit.intOf (a'.tmps.getD 7 undef)).toNat < 60 - (RowKit.intOf (Value.int .i64 (i : Nat))).toNat) (fun _ _ _ => False)) a W' := by
        intro a W' h
        refine pl5_wp _ w W' D O ops.length co i (i + 1) a hi60 h ?_
        intro a' h' h7'
        refine ⟨⟨i + 1, by omega, h', h7'⟩, ?_⟩
        rw [h7']
        exact measL hi60
      refine wp_joinL (I := RS w D O ops.length co i (i + 1)) (wp_block (plB_wp _ w W2 D O co i ops a HO.out hin hi60 hR2 ?_)) ?_
      · intro a W' h
        exact ⟨h, h⟩
      · intro a W' h
        refine wp_mono (hend a W' h) ?_
        intro e a w hq
        cases e with
        | normal => rw [h7]; exact hq
        | _ => exact hq.elim
end Go.Proofs.Ytojjdnfkcigdbaa
namespace Go.Proofs.Ytojjdnfkcigdbaa
open Go.RowKit Go.Shelf Go.Lib
attribute [local go_sem] Oper.semAt_some

/-- what stands beneath one goes behind what stands beneath another one -/
theorem mvQ_ok {a b : Nat} (hab : a ≠ b) : ∀ (K : List Int) (ps : List Pl) (x y : Pl), Tr ps → ps[a]? = some x → ps[b]? = some y → x.kids = K → (mvQ b K ps).2 = 0 → ∃ x' y', (mvQ b K ps).1[a]? = some x' ∧ (mvQ b K ps).1[b]? = some y' ∧ x'.kids = [] ∧ y'.kids = y.kids ++ K
  | [], ps, x, y, _, hx, hy, hk, _ => ⟨x, y, hx, hy, hk, by simp⟩
  | k :: K, ps, x, y, ht, hx, hy, hk, hz => by
    unfold mvQ at hz ⊢
    by_cases h0 : putEQ ps b k (-1) = 0
    · rw [if_pos h0] at hz ⊢
      obtain ⟨i, z, rfl, hi, hu⟩ := ht.kup a x hx k (by rw [hk]; exact List.mem_cons_self ..)
      have hnb : (i : Int) ∉ y.kids := fun hm => by
        obtain ⟨j, z2, e, hj, hu2⟩ := ht.kup b y hy i hm
        have : i = j := by omega
        subst this
        rw [hi] at hj
        cases hj
        omega
      have ha1 := outQ_at ht hi a x hx
      have hb1 := outQ_at ht hi b y hy
      have hpl : plQ (outQ ps (i : Int)) (b : Int) (-1) = (y.kids.length : Int) := by
        unfold plQ
        rw [if_pos rfl, pAt_some hb1]
        simp only [List.erase_of_not_mem hnb]
      have hput : putQ ps (b : Int) (i : Int) (-1) = attQ (outQ ps i) b y.kids.length i := by
        unfold putQ
        rw [if_pos h0, hpl]
        rfl
      have ha2 := attQ_get (outQ ps i) b y.kids.length i a _ ha1
      have hb2 := attQ_get (outQ ps i) b y.kids.length i b _ hb1
      rw [← hput] at ha2 hb2
      obtain ⟨x', y', h1, h2, h3, h4⟩ := mvQ_ok hab K (putQ ps (b : Int) (i : Int) (-1)) _ _ (putQ_tr ht _ _ _) ha2 hb2 (by
        simp only [if_neg hab, hk, List.erase_cons_head]) hz
      refine ⟨x', y', h1, h2, h3, ?_⟩
      rw [h4]
      simp only [if_true, List.erase_of_not_mem hnb]
      unfold insL
      rw [List.take_of_length_le (Nat.le_refl _), List.drop_eq_nil_of_le (Nat.le_refl _), List.append_assoc]
      rfl
    · rw [if_neg h0] at hz
      exact absurd hz h0
theorem mod_len (x : Int) (L : Nat) (h0 : 0 < L) : ∃ a : Nat, (bits BinOp.and IntKind.i64 x 65535).tmod (L : Int) = (a : Int) ∧ a < L := by
  rw [and65L]
  have h1 : (0 : Int) ≤ x % 65536 := by omega
  rw [Int.tmod_eq_emod_of_nonneg h1]
  have h2 := Int.emod_nonneg (x % 65536) (show (L : Int) ≠ 0 by omega)
  have h3 := Int.emod_lt_of_pos (x % 65536) (show (0 : Int) < L by omega)
  exact ⟨((x % 65536) % (L : Int)).toNat, by omega, by omega⟩
set_option maxRecDepth 100000 in
set_option maxHeartbeats 4000000 in
theorem domMoves_law (ops : List OpD) (O : Option Addr) (co : Nat) (a b : Int) (w : World) (hO : RdO w O ops) : Calls Try.prog 7 #[.slice O ops.length co, .int .i64 a, .int .i64 b] w fun e w' => e = .returned (.bool true) ∧ Below w.heap.size w w' := by
  have HO := Lib.hid hO
  clear hO
  go_enter Try.func7, Try.ntmps7
  go_wp2_with fail
  refine (head8_any w).mono ?_
  rintro e W1 ⟨rfl, hb1⟩
  have KP := Lib.hid (play_any ops O co W1 (HO.out.below hb1))
  have HB1 := Lib.hid hb1
  have HW1 := Lib.hid hb1.size
  clear hb1
  go_wp2_with fail
  refine KP.out.mono ?_
  rintro e W2 ⟨D, v, ns, va, os, rfl, st⟩
  obtain ⟨Av, cv, rfl, _, _, _⟩ := st.own.sl
  have hpos := st.pos
  have hl2 := st.len2
  have hle := st.len
  have hkd := st.kids
  obtain ⟨i, hav, hil⟩ := mod_len a os.length hpos
  obtain ⟨p, hbv, hpl⟩ := mod_len b os.length hpos
  have hnz : ¬ (os.length : Int) = 0 := by omega
  have hnz2 : ((os.length : Int) == 0) = false := by rw [beq_eq_false_iff_ne]; omega
  have hnz3 : ¬ os.length = 0 := by omega
  have hkn : ∀ n : Int, (kdN ns n).length ≤ os.length := fun n => by
    unfold kdN
    cases hq : inN ns n with
    | false => rw [atN_none hq]; exact Nat.zero_le _
    | true =>
      obtain ⟨j, z, e, hi⟩ := inN_at hq
      rw [e, atN_some hi]
      exact hkd z (List.mem_of_getElem? hi)
  have KA := Lib.hid (Kids_any (i : Int) W2 st.doc (by have := hkn i; omega))
  have HST := Lib.hid st
  have HKN := Lib.hid hkn
  have HKD := Lib.hid hkd
  have HL2 := Lib.hid hl2
  have HB2 : Hid (Below w.heap.size w W2) := Lib.hid (HB1.out.trans (st.bw.mono HB1.out.size))
  clear st hkd hkn KP hl2 HB1
  go_wp2_with fail
  refine KA.out.mono ?_
  rintro e W3 ⟨v3, rfl, ho3, hb3⟩
  obtain ⟨A3, c3, hv3⟩ := own_slice ho3
  subst hv3
  have KB := Lib.hid (Kids_any (p : Int) W3 (HST.out.doc.below hb3) (by have := HKN.out p; omega))
  have HO3 := Lib.hid ho3
  have HB3 := Lib.hid hb3
  clear ho3 hb3 KA
  go_wp2_with fail
  refine KB.out.mono ?_
  rintro e W4 ⟨v4, rfl, ho4, hb4⟩
  obtain ⟨A4, c4, hv4⟩ := own_slice ho4
  subst hv4
  have st4 := (HST.out.below HB3.out).below hb4
  have ho34 := own_keep HO3.out hb4
  have KM := Lib.hid (move_any (i : Int) (p : Int) W4 st4.doc (by have := HL2.out; omega) (by have := st4.bw.size; omega) os.length HKD.out (by have := HKN.out i; omega))
  have HST4 := Lib.hid st4
  have HO34 := Lib.hid ho34
  have HO4 := Lib.hid ho4
  have HB4 : Hid (Below w.heap.size w W4) := Lib.hid (HB2.out.trans ((HB3.out.trans (hb4.mono HB3.out.size)).mono HB2.out.size))
  have HS3 := Lib.hid HB3.out.size
  have HS4 := Lib.hid hb4.size
  clear st4 ho34 ho4 hb4 HO3 HB3 KB
  go_wp2_with fail
  refine KM.out.mono ?_
  rintro e W5 ⟨ns', z, hor, rfl, hA⟩
  obtain ⟨v5, hp5⟩ := HST4.out.pr.adds hA
  have hf5 : Frm (DB D v ns) W4 W5 := by obtain ⟨_, _, hf, _⟩ := hA; exact hf
  have hb5 : Below w.heap.size w W5 := HB4.out.trans (hf5.toBelow HB4.out.size (fun k e => by have h1 := (HST.out.doc.in_ k e).1; have h2 := HW1.out; omega))
  have r3 := hf5.own HO34.out (fun k e1 e2 => by have h1 := (HO34.out.lt k e1).1; have h2 := (HST.out.doc.in_ k e2).2; omega)
  have r4 := hf5.own HO4.out (fun k e1 e2 => by have h1 := (HO4.out.lt k e1).1; have h2 := (HST.out.doc.in_ k e2).2; have h3 := HS3.out; omega)
  have HB5 := Lib.hid hb5
  by_cases hz : z = 0
  · subst hz
    have dz : ((0 : Int) != 0) = false := by decide
    obtain ⟨hii, hip, hab, hmv⟩ : inN ns (i : Int) = true ∧ inN ns (p : Int) = true ∧ (i : Int) ≠ (p : Int) ∧ MvR (p : Int) (kdN ns (i : Int)) ns ns' 0 := by
      rcases hor with h | ⟨_, _, h⟩
      · exact h
      · omega
    have htr : Tr (ns.map Nd.pl) := by rw [HST.out.eq]; exact HST.out.tr
    have hm := mv_pl hmv htr (by have := HL2.out; omega)
    obtain ⟨x, hx⟩ : ∃ x, (ns.map Nd.pl)[i]? = some x := ⟨_, List.getElem?_eq_getElem (by rw [List.length_map]; have := HL2.out; omega)⟩
    obtain ⟨y, hy⟩ : ∃ y, (ns.map Nd.pl)[p]? = some y := ⟨_, List.getElem?_eq_getElem (by rw [List.length_map]; have := HL2.out; omega)⟩
    have hkx : kdN ns (i : Int) = x.kids := by rw [kdN_pl, pAt_some hx]
    have hky : kdN ns (p : Int) = y.kids := by rw [kdN_pl, pAt_some hy]
    have htr' := mvQ_tr (up := (p : Int)) (kdN ns (i : Int)) htr
    obtain ⟨x', y', q1, q2, q3, q4⟩ := mvQ_ok (a := i) (b := p) (by omega) (kdN ns (i : Int)) (ns.map Nd.pl) x y htr hx hy hkx.symm (by rw [← hm])
    rw [← hm] at q1 q2 htr'
    have hk1 : kdN ns' (i : Int) = [] := by rw [kdN_pl, pAt_some q1, q3]
    have hk2 : kdN ns' (p : Int) = kdN ns (p : Int) ++ kdN ns (i : Int) := by rw [kdN_pl, pAt_some q2, q4, hky]
    have hups : ∀ k ∈ kdN ns (p : Int) ++ kdN ns (i : Int), atN ns' k Nd.up (-1) = (p : Int) := fun k hk => by
      rw [← hky] at q4
      rw [← q4] at hk
      obtain ⟨j, u, e, hj, hu⟩ := htr'.kup p y' q2 k hk
      rw [up_pl, e, pAt_some hj, hu]
    have hn3 := HKN.out (i : Int)
    have hn4 := HKN.out (p : Int)
    obtain ⟨T, hT⟩ : ∃ T, kdN ns (p : Int) = T := ⟨_, rfl⟩
    obtain ⟨K, hK⟩ : ∃ K, kdN ns (i : Int) = K := ⟨_, rfl⟩
    rw [hT] at r4 hn4 hk2 hups ⊢
    rw [hK] at r3 hn3 hk2 hups ⊢
    have KG := Kids_any (p : Int) W5 hp5.doc (by rw [hk2, List.length_append]; omega)
    rw [hk2] at KG
    replace KG := Lib.hid KG
    have HP5 := Lib.hid hp5
    have HK1 := Lib.hid hk1
    have HUP := Lib.hid hups
    have R3 := Lib.hid r3
    have R4 := Lib.hid r4
    have HTK : Hid ((T ++ K).length = T.length + K.length) := Lib.hid (List.length_append)
    clear hor hA hp5 hf5 hb5 r3 r4 hii hip hab hmv htr hm hx hy hkx hky htr' q1 q2 q3 q4 hk1 hk2 hups hT hK KM
    go_wp2_with fail
    refine KG.out.mono ?_
    rintro e W6 ⟨v6, rfl, ho6, hb6⟩
    rw [HTK.out] at ho6
    obtain ⟨A6, c6, hv6⟩ := own_slice ho6
    subst hv6
    have KE := Kids_any (i : Int) W6 (HP5.out.doc.below hb6) (by rw [HK1.out]; simp)
    rw [HK1.out] at KE
    replace KE := Lib.hid KE
    have HO6 := Lib.hid ho6
    have HB6 := Lib.hid hb6
    clear ho6 hb6 KG
    go_wp2_with fail
    refine KE.out.mono ?_
    rintro e W7 ⟨v7, rfl, ho7, hb7⟩
    obtain ⟨A7, c7, hv7⟩ := own_slice ho7
    subst hv7
    have e1 : ((((List.length ([] : List Int)) : Nat) : Int) != 0) = false := by decide
    have e2 : ((((T.length + K.length : Nat)) : Int) != (T.length : Int) + (K.length : Int)) = false := by simp
    have e2' : ((T.length : Int) + (K.length : Int) != (T.length : Int) + (K.length : Int)) = false := by simp
    have hb57 := HB6.out.trans (hb7.mono HB6.out.size)
    have hp7 := HP5.out.below hb57
    have r3 := own_keep (own_keep R3.out HB6.out) hb7
    have r4 := own_keep (own_keep R4.out HB6.out) hb7
    have r6 := own_keep HO6.out hb7
    obtain ⟨i0, hi, hz0, hz1, hz2⟩ := info_parts infoInt
    have FB := Lib.hid (show Below W7.heap.size W7 (W7.alloc (.cells #[] 3)) from (Below.refl _ W7).alloc (Nat.le_refl _) _)
    have HO1 : Hid ((W7.alloc (.cells #[] 3)).ownsRow W7.heap.size 3 1 (.slice (some ⟨W7.heap.size, 0, none⟩) 0 0) 0 []) := Lib.hid (World.ownsRow_lit W7 #[] 0 (Nat.le_refl _) (by decide) rfl)
    obtain ⟨A3', c3', e3, _, _, hA3, rd3⟩ := Rd.own r3
    obtain ⟨A4', c4', e4, _, _, hA4, rd4⟩ := Rd.own r4
    injection e3 with e3 _ e3'
    subst e3 e3'
    injection e4 with e4 _ e4'
    subst e4 e4'
    have RD4 := Lib.hid (rd4.below FB.out)
    have RD3 := Lib.hid rd3
    have HA3 := Lib.hid hA3
    have HA4 := Lib.hid hA4
    have R6 := Lib.hid r6
    have HP7 := Lib.hid hp7
    have HB7 : Hid (Below w.heap.size w W7) := Lib.hid (HB5.out.trans (hb57.mono HB5.out.size))
    have M1 : Hid (0 + T.length ≤ maxLen) := Lib.hid (by unfold maxLen; omega)
    have M2 : Hid ((0 + T.length) * 8 ≤ 140737488355328) := Lib.hid (by omega)
    have M3 : Hid (T.length + K.length ≤ maxLen) := Lib.hid (by unfold maxLen; omega)
    have M4 : Hid ((T.length + K.length) * 8 ≤ 140737488355328) := Lib.hid (by omega)
    clear ho7 hb7 hb57 hp7 r3 r4 r6 rd3 rd4 hA3 hA4 KE HB6 HO6
    go_wp2_with (first
      | (at_builtin; refine wpList_append_rd rfl 30 rfl W7.heap.size 3 i0 _ 8 Try.underlying30 hi hz0 hz1 hz2 v8 T.length (T.map (Value.int .i64)) rfl ho8 A3 K.length c3 rfl K .i64 rfl (RD3.out.below hb8) HA3.out rfl M3.out M4.out hb8.size ?_; intro v9 w9 ho9 hg9; have hb9 : Below W7.heap.size W7 w9 := hb8.grown hg9 hb8.size (fun j e => (ho8.lt j e).1); clear hg9; obtain ⟨A9, c9, hv9⟩ := own_slice ho9; subst hv9)
      | (at_builtin; refine wpList_append_rd rfl 30 rfl W7.heap.size 3 i0 _ 8 Try.underlying30 hi hz0 hz1 hz2 _ 0 [] rfl HO1.out A4 T.length c4 rfl T .i64 rfl RD4.out HA4.out rfl M1.out M2.out FB.out.size ?_; intro v8 w8 ho8 hg8; rw [List.nil_append, Nat.zero_add] at ho8; have hb8 : Below W7.heap.size W7 w8 := FB.out.grown hg8 FB.out.size (fun j e => (by cases e; exact Nat.le_refl _)); clear hg8))
    have ho9' : w9.ownsRow W7.heap.size 3 1 (.slice A9 (T.length + K.length) c9) (T.length + K.length) ((T ++ K).map (Value.int .i64)) := by rw [List.map_append]; exact ho9
    have HO9 := Lib.hid ho9'
    have HB9 := Lib.hid hb9
    have R69 := Lib.hid (own_keep R6.out hb9)
    have HP9 := Lib.hid (HP7.out.below hb9)
    clear ho9 ho9' hb9 ho8 hb8 R6 HP7 RD3 RD4 HO1
    go_loop [70] (fun jv => ∃ j : Nat, j ≤ T.length + K.length ∧ jv = .int .i64 j) (fun jv => T.length + K.length - (RowKit.intOf jv).toNat)
    case atStart => exact ⟨0, Nat.zero_le _, rfl⟩
    case round =>
      obtain ⟨j, hj, rfl⟩ := hrel
      by_cases hjl : j < T.length + K.length
      · have dj : decide ((j : Int) < (T.length : Int) + (K.length : Int)) = true := decide_eq_true (by omega)
        have hjl2 : (j : Int) < (T.length : Int) + (K.length : Int) := by omega
        obtain ⟨k, hk⟩ : ∃ k, (T ++ K)[j]? = some k := ⟨_, List.getElem?_eq_getElem (by rw [HTK.out]; exact hjl)⟩
        obtain ⟨g9, rfl, q9⟩ : ∃ g9, A9 = some ⟨g9, 0, none⟩ ∧ w9.cell? ⟨g9, j, none⟩ = some (.int .i64 k) := by
          rcases HO9.out.2 with ⟨_, h0⟩ | ⟨g9, cap, cur, e, _⟩
          · omega
          · injection e with e _ _
            subst e
            refine ⟨g9, rfl, ?_⟩
            have := HO9.out.cellAt j (by omega)
            rw [List.getElem?_map, hk] at this
            simpa using this
        obtain ⟨g6, rfl, q6⟩ : ∃ g6, A6 = some ⟨g6, 0, none⟩ ∧ w9.cell? ⟨g6, j, none⟩ = some (.int .i64 k) := by
          rcases R69.out.2 with ⟨_, h0⟩ | ⟨g6, cap, cur, e, _⟩
          · omega
          · injection e with e _ _
            subst e
            refine ⟨g6, rfl, ?_⟩
            have := R69.out.cellAt j (by omega)
            rw [List.getElem?_map, hk] at this
            simpa using this
        have KU := up_any k w9 HP9.out.doc
        rw [HUP.out k (List.mem_of_getElem? hk)] at KU
        replace KU := Lib.hid KU
        have tx : (k != k) = false := by simp
        have tp : ((p : Int) != (p : Int)) = false := by simp
        clear hk
        go_wp2_with fail
        refine KU.out.mono ?_
        rintro e wx ⟨rfl, rfl⟩
        go_wp2
        go_round
        case rel => exact ⟨j + 1, by omega, by go_num⟩
        case measure => simp [RowKit.intOf]; omega
      · have dj : decide ((j : Int) < (T.length : Int) + (K.length : Int)) = false := decide_eq_false (by omega)
        have hjl2 : ¬ (j : Int) < (T.length : Int) + (K.length : Int) := by omega
        go_wp2
        go_ret
        exact ⟨rfl, HB7.out.trans (HB9.out.mono HB7.out.size)⟩
  · have dz : (z != 0) = true := by simpa using hz
    clear hor hA hp5 hf5 hb5 r3 r4 hz
    go_wp2
    go_ret
    exact ⟨rfl, HB5.out⟩
end Go.Proofs.Ytojjdnfkcigdbaa
namespace Go.Proofs.Ytojjdnfkcigdbaa
open Go.RowKit Go.WideShapes Go.ChangeShapes

theorem block_lt {w : World} {b i : Nat} {v : Value} (h : w.cell? ⟨b, i, none⟩ = some v) : b < w.heap.size := by
  rcases Nat.lt_or_ge b w.heap.size with hlt | hge
  · exact hlt
  · simp [World.cell?, Array.getElem?_eq_none hge] at h

section
variable {H : Type} {enc : TypeId × Value → H} {P : Program}

theorem all_carried (hl : laidOutB P = true) {W W' : World} (hb : Below W.heap.size W W') :
    ∀ (ts : List TypeId) (vs : List Value) (ds : List (DataW H)) (ps : List MemPlace), (ts.all fun t => P.readableRec t && decide (t < P.types.size)) = true →
      (∀ x ∈ ps, x.block < W.heap.size) → DataW.TrodAll enc P W 0 (fun _ => true) true ts vs ds ps → DataW.TrodAll enc P W' 0 (fun b => decide (b < W.heap.size)) true ts vs ds ps
  | [], vs, ds, ps, _, _, h => by
    obtain ⟨rfl, rfl, rfl⟩ := trodAll_nil h
    exact trodAll_mk0
  | t :: ts, vs, ds, ps, ht, hlt, h => by
    obtain ⟨v, vs1, d, ds1, a, b, rfl, rfl, rfl, h1, h2⟩ := trodAll_cons h
    simp only [List.all_cons, Bool.and_eq_true, decide_eq_true_eq] at ht
    refine trodAll_cons_mk (Below.trod hl ht.1.1 ht.1.2 h1 hb fun x hx => hlt x (List.mem_append_left _ hx)) ?_
    exact all_carried hl hb ts vs1 ds1 b ht.2 (fun x hx => hlt x (List.mem_append_right _ hx)) h2

theorem law_post {f : Func} {s : ChangeSpec} {W W' : World} {args : Array Value} {ds gs : List (DataW H)} {before : List MemPlace} {B : TypeId}
    (hl : laidOutB P = true) (hp : (f.params.toList.all fun t => P.readableRec t && decide (t < P.types.size)) = true) (hr : f.resultTypes = #[B]) (hB : P.underlying B = some .bool) (hv : s.vars = [])
    (hW : DataW.Whole enc P f.params.toList s.vars false W args.toList ds gs before) (hfn : s.fn H (ds ++ gs) = { results := [.lit (.bool true)], args := ds }) (hb : Below W.heap.size W W') :
    s.post enc P f false true false false W args (.bool true) W' := by
  have hlt := hW.lt
  have hW0 := hW
  obtain ⟨p, q, hA, hV, rfl, _, _⟩ := hW
  rw [hv] at hV
  obtain ⟨rfl, rfl⟩ := trodVars_none hV
  simp only [List.append_nil] at hlt
  refine ⟨ds, [], p ++ [], [], p, [], hW0, ?_, ?_, ?_, World.keptBut_mono (may := fun x => x ∈ p) (fun x hx => ⟨by simpa using hx, .inr (.inl hx)⟩) (hb.frame _), fun h => by cases h⟩
  · rw [hfn, hr]
    exact trodAll_mk1 (shut_bool hB true)
  · rw [hfn]
    exact all_carried hl hb _ _ _ _ hp hlt hA
  · rw [hfn, hv]
    exact rfl

end

end Go.Proofs.Ytojjdnfkcigdbaa
namespace Go.Proofs.Ytojjdnfkcigdbaa
open Go.RowKit Go.WideShapes Go.ChangeShapes

theorem open_rd {H : Type} {enc : TypeId × Value → H} {P : Program} {W : World} {base : Nat} {t e : TypeId} {k : IntKind} {v : Value} {d : DataW H} {p : List MemPlace}
    (ht : P.underlying t = some (.slice e)) (he : P.underlying e = some (.int k)) (hc : P.cellsOf e = 1) (hv : Value.okWide P W .any base t v) (h : DataW.Trod enc P W 0 (fun _ => true) true t v d p) :
    ∃ A rs cap, v = .slice A rs.length cap ∧ Rd W k A rs ∧ rs.length ≤ cap ∧ cap ≤ maxLen ∧ (∀ n ∈ rs, (Lit.int k n).wf = true) ∧ (A = none → cap = 0) := by
  obtain ⟨a0, len, cap, rfl⟩ := okWide_slice ht hv
  obtain ⟨fuel, hf⟩ := h
  rcases open_ints ht he hc hf with ⟨hcs, hx⟩ | ⟨a, len', cap', zs, hcs, _, hl, hm, hz, hx, hcell, hwz⟩
  · simp [Value.cells] at hcs
    obtain ⟨rfl, rfl, rfl⟩ := hcs
    exact ⟨none, [], 0, rfl, .inl rfl, by simp, by simp, fun n hn => (by simp at hn), fun _ => rfl⟩
  · simp [Value.cells] at hcs
    obtain ⟨rfl, rfl, rfl⟩ := hcs
    simp only [if_true] at hz
    have hlen : (zs.take len).length = len := by simp; omega
    refine ⟨some a, zs.take len, cap, by rw [hlen], ?_, by omega, hm, fun n hn => hwz n (List.mem_of_mem_take hn), fun h => (by cases h)⟩
    by_cases h0 : len = 0
    · left
      subst h0
      simp
    · right
      obtain ⟨b, off, rfl, hcl⟩ := ints_at hcell (by omega)
      refine ⟨b, off, rfl, block_lt (hcl 0 (by omega)), fun i hi => ?_⟩
      rw [hlen] at hi
      rw [hcl i (by omega)]
      simp [hi]

theorem getD_bd {rs : List Int} {lo hi : Int} (h0 : lo ≤ 0) (h1 : 0 ≤ hi) (h : ∀ n ∈ rs, lo ≤ n ∧ n ≤ hi) (i : Nat) : lo ≤ rs[i]?.getD 0 ∧ rs[i]?.getD 0 ≤ hi := by
  cases hi' : rs[i]? with
  | none => simp; omega
  | some x => exact h x (List.mem_of_getElem? hi')

end Go.Proofs.Ytojjdnfkcigdbaa
