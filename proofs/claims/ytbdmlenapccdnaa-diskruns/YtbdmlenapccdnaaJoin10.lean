/- DiskRuns, the second piece: the step as the law does it. DiskRuns, the second piece, where a change is done. DiskRuns, the third piece: the disk's own call (Move, Drop, Sync, Fuse, nothing). -/
import Derived.Test.YtbdmlenapccdnaaLh
namespace Go.Proofs.Ytbdmlenapccdnaa
open Go.RowKit

structure HypB (w1 : World) (Q : Nat → Prop) (F : Nat → Value) (W : World) (ob gn cn gs cs : Nat) (v9 : Value) (o : OpV) (A : Ab) (wt : List OpV) : Prop where
  e7 : F 7 = .slice (some ⟨gn, 0, none⟩) A.now.length cn
  e8 : F 8 = .slice (some ⟨gs, 0, none⟩) A.safe.length cs
  e9 : F 9 = v9
  e10 : F 10 = .int .i64 A.fuse
  e11 : F 11 = .bool A.off
  e12 : F 12 = .int .i64 A.steps
  e14 : F 14 = .pointer (some ⟨ob, 0, none⟩)
  e15 : F 15 = .int .i64 (want1 A o)
  hC : Cel W ob 30 (opCells o)
  law : Lw w1 W Q A wt gn cn gs cs v9
  hl : A.now.length ≤ 1000000
  hu : (used A.now : Int) ≤ A.room
  hr : A.room ≤ 16777216
  hok : OpOk w1 o
  hb : o.b.length ≤ 300
  hfr : Fr (fun _ => False) w1 W
  hfz : 0 ≤ A.fuse ∧ A.fuse ≤ 9223372036854775807
  hst : 0 ≤ A.steps ∧ A.steps ≤ 1000
  hwl : wt.length ≤ 1000

/-- behind the second piece -/
def IB (room most : Int) (O : Option Addr) (n co d : Nat) (F : Nat → Value) (w1 : World) (Q : Nat → Prop) (o : OpV) (A : Ab) (wt : List OpV) (W : World) (a : Act) (W' : World) : Prop :=
  ∃ F' gn cn gs cs v9, a = ⟨frm room most O n co d F', []⟩ ∧ F' 7 = .slice (some ⟨gn, 0, none⟩) (A1 A o).now.length cn ∧ F' 8 = .slice (some ⟨gs, 0, none⟩) (A1 A o).safe.length cs ∧ F' 9 = v9 ∧ F' 10 = .int .i64 (A1 A o).fuse ∧ F' 11 = .bool (A1 A o).off ∧ F' 12 = .int .i64 (A1 A o).steps ∧ F' 13 = F 13 ∧ F' 14 = F 14 ∧ F' 15 = .int .i64 (want2 A o) ∧
    Fr (fun _ => False) W W' ∧ Lw w1 W' (fun k => Q k ∨ (W.heap.size ≤ k ∧ k < W'.heap.size)) (A1 A o) (wait1 A o wt) gn cn gs cs v9
theorem IB_mk {room most : Int} {O : Option Addr} {n co d : Nat} {F : Nat → Value} {w1 : World} {Q : Nat → Prop} {o : OpV} {A : Ab} {wt : List OpV} {W W' : World} {t : Array Value} (gn cn gs cs : Nat) (v9 : Value) (h : slots room most O n co d t) (h7 : t.getD 7 undef = .slice (some ⟨gn, 0, none⟩) (A1 A o).now.length cn) (h8 : t.getD 8 undef = .slice (some ⟨gs, 0, none⟩) (A1 A o).safe.length cs) (h9 : t.getD 9 undef = v9) (h10 : t.getD 10 undef = .int .i64 (A1 A o).fuse) (h11 : t.getD 11 undef = .bool (A1 A o).off) (h12 : t.getD 12 undef = .int .i64 (A1 A o).steps) (h13 : t.getD 13 undef = F 13) (h14 : t.getD 14 undef = F 14) (h15 : t.getD 15 undef = .int .i64 (want2 A o)) (hf : Fr (fun _ => False) W W')
    (hL : Lw w1 W' (fun k => Q k ∨ (W.heap.size ≤ k ∧ k < W'.heap.size)) (A1 A o) (wait1 A o wt) gn cn gs cs v9) : IB room most O n co d F w1 Q o A wt W ⟨t, []⟩ W' :=
  ⟨_, gn, cn, gs, cs, v9, by rw [← frm_of h], h7, h8, h9, h10, h11, h12, h13, h14, h15, hf, hL⟩

set_option maxRecDepth 100000 in
set_option maxHeartbeats 2000000 in
theorem sgB_no (Qx : Exit → Act → World → Prop) (room : Int) (O : Option Addr) (n co d : Nat) (F : Nat → Value) (w1 W : World) (Q : Nat → Prop) (ob gn cn gs cs : Nat) (v9 : Value) (o : OpV) (A : Ab) (wt : List OpV) (h : HypB w1 Q F W ob gn cn gs cs v9 o A wt) (hno : ¬ (want1 A o = 0 ∧ 0 ≤ o.k ∧ o.k ≤ 3)) :
    Code.wp Try.prog pB (Exit.then (IB room A.room O n co d F w1 Q o A wt W) Qx) ⟨frm room A.room O n co d F, []⟩ W := by
  obtain ⟨e7, e8, e9, e10, e11, e12, e14, e15, hC, law, hl, hu, hr, hok, hb, hfr, hfz, hst, hwl⟩ := h
  obtain ⟨a1, a2⟩ := stays hno
  have hw : wait1 A o wt = wt := by unfold wait1; rw [if_neg hno]
  have fin : ∀ t, slots room A.room O n co d t → t.getD 7 undef = F 7 → t.getD 8 undef = F 8 → t.getD 9 undef = F 9 → t.getD 10 undef = F 10 → t.getD 11 undef = F 11 → t.getD 12 undef = F 12 → t.getD 13 undef = F 13 → t.getD 14 undef = F 14 → t.getD 15 undef = F 15 → IB room A.room O n co d F w1 Q o A wt W ⟨t, []⟩ W := by
    intro t hs t7 t8 t9 t10 t11 t12 t13 t14 t15
    refine IB_mk gn cn gs cs v9 hs ?_ ?_ (t9.trans e9) ?_ ?_ ?_ t13 t14 ?_ (Fr.refl _ _) ?_
    · rw [t7, e7, a1]
    · rw [t8, e8, a1]
    · rw [t10, e10, a1]
    · rw [t11, e11, a1]
    · rw [t12, e12, a1]
    · rw [t15, e15, a2]
    · rw [a1, hw]; exact law.sub (fun k hk => .inl hk)
  have FIN := Lib.hid fin
  clear fin a1 a2 hw
  have x0 := hC.cell 0
  simp [opCells] at x0
  obtain ⟨wv, hwv⟩ : ∃ wv, want1 A o = wv := ⟨_, rfl⟩
  rw [hwv] at e15 hno
  clear e7 e8 e9 e10 e11 e12 hwv
  by_cases c1 : wv = 0
  · by_cases c2 : 0 ≤ o.k
    · have c3 : ¬ o.k ≤ 3 := fun c3 => hno ⟨c1, c2, c3⟩
      have d1 : (wv == 0) = true := by simpa using c1
      have d2 : decide (0 ≤ o.k) = true := by simpa using c2
      have d3 : decide (o.k ≤ 3) = false := by simpa using c3
      have E14 := Lib.hid e14
      have E15 := Lib.hid e15
      unfold frm
      rw [e14, e15]
      clear hno c1 c2 c3 e14 e15
      conv => arg 2; whnf
      go_wp2
      exact FIN.out _ ⟨rfl, rfl, rfl, rfl, rfl⟩ rfl rfl rfl rfl rfl rfl rfl E14.out.symm E15.out.symm
    · have d1 : (wv == 0) = true := by simpa using c1
      have d2 : decide (0 ≤ o.k) = false := by simpa using c2
      have E14 := Lib.hid e14
      have E15 := Lib.hid e15
      unfold frm
      rw [e14, e15]
      clear hno c1 e14 e15
      conv => arg 2; whnf
      go_wp2
      exact FIN.out _ ⟨rfl, rfl, rfl, rfl, rfl⟩ rfl rfl rfl rfl rfl rfl rfl E14.out.symm E15.out.symm
  · have d1 : (wv == 0) = false := by simpa using c1
    have E14 := Lib.hid e14
    have E15 := Lib.hid e15
    unfold frm
    rw [e14, e15]
    clear hno e14 e15
    conv => arg 2; whnf
    go_wp2
    exact FIN.out _ ⟨rfl, rfl, rfl, rfl, rfl⟩ rfl rfl rfl rfl rfl rfl rfl E14.out.symm E15.out.symm

/-- the fuse behind a step -/
theorem stp_vals (A : Ab) : (A.fuse = 1 → (stpA A).fuse = 0 ∧ (stpA A).off = true ∧ (stpA A).steps = A.steps ∧ stpC A = 10) ∧ (A.fuse ≠ 1 → (stpA A).off = A.off ∧ (stpA A).steps = A.steps + 1 ∧ stpC A = 0 ∧ (0 < A.fuse → (stpA A).fuse = A.fuse - 1) ∧ (A.fuse = 0 → (stpA A).fuse = 0)) := by
  unfold stpA stpC
  constructor
  · intro h
    simp [h]
  · intro h
    simp only [if_neg h]
    refine ⟨trivial, trivial, trivial, fun h1 => ?_, fun h1 => ?_⟩ <;> omega

set_option maxRecDepth 100000 in
set_option maxHeartbeats 2000000 in
theorem sgB_3 (Qx : Exit → Act → World → Prop) (room : Int) (O : Option Addr) (n co d : Nat) (F : Nat → Value) (w1 W : World) (Q : Nat → Prop) (ob gn cn gs cs : Nat) (v9 : Value) (o : OpV) (A : Ab) (wt : List OpV) (h : HypB w1 Q F W ob gn cn gs cs v9 o A wt) (hg : want1 A o = 0) (hk : o.k = 3) :
    Code.wp Try.prog pB (Exit.then (IB room A.room O n co d F w1 Q o A wt W) Qx) ⟨frm room A.room O n co d F, []⟩ W := by
  obtain ⟨e7, e8, e9, e10, e11, e12, e14, e15, hC, law, hl, hu, hr, hok, hb, hfr, hfz, hst, hwl⟩ := h
  obtain ⟨a1, a2, a3⟩ := goes3 hg hk
  obtain ⟨s1, s2, s3, s4⟩ := stpA_rest A
  obtain ⟨q1, q2⟩ := stp_vals A
  have x0 := hC.cell 0
  simp [opCells] at x0
  rw [hk] at x0
  have E14 := Lib.hid e14
  have E7 := Lib.hid e7
  have E8 := Lib.hid e8
  have E9 := Lib.hid e9
  by_cases c1 : A.fuse = 1
  · obtain ⟨p1, p2, p3, p4⟩ := q1 c1
    have hw : wait1 A o wt = wt := by unfold wait1; rw [if_pos ⟨hg, by omega, by omega⟩, if_pos hk, if_pos c1]
    rw [if_pos c1] at a1
    have fin : ∀ t, slots room A.room O n co d t → t.getD 7 undef = F 7 → t.getD 8 undef = F 8 → t.getD 9 undef = F 9 → t.getD 10 undef = .int .i64 0 → t.getD 11 undef = .bool true → t.getD 12 undef = .int .i64 A.steps → t.getD 13 undef = F 13 → t.getD 14 undef = F 14 → t.getD 15 undef = .int .i64 10 → IB room A.room O n co d F w1 Q o A wt W ⟨t, []⟩ W := by
      intro t hs t7 t8 t9 t10 t11 t12 t13 t14 t15
      refine IB_mk gn cn gs cs v9 hs ?_ ?_ (t9.trans E9.out) ?_ ?_ ?_ t13 t14 ?_ (Fr.refl _ _) ?_
      · rw [t7, E7.out, a1, s1]
      · rw [t8, E8.out, a1, s2]
      · rw [t10, a1, p1]
      · rw [t11, a1, p2]
      · rw [t12, a1, p3]
      · rw [t15, a2, p4]
      · rw [a1, hw]
        exact ⟨by rw [s1]; exact law.now, .inl law.qn, by rw [s2]; exact law.safe, .inl law.qs, law.wait, fun k e => .inl (law.qw k e), by rw [s3]; exact law.pend, law.wok⟩
    have FIN := Lib.hid fin
    rw [hg] at e15
    rw [c1] at e10
    unfold frm
    rw [e14, e15, e10, e11, e12]
    clear fin a1 a2 hw q1 q2 p1 p2 p3 p4 c1 e14 e15 e10 e11 e12 e7 e8 e9 hg hk s1 s2 s3 s4
    conv => arg 2; whnf
    go_wp2
    exact FIN.out _ ⟨rfl, rfl, rfl, rfl, rfl⟩ rfl rfl rfl rfl rfl rfl rfl E14.out.symm rfl
  · obtain ⟨p1, p2, p3, p4, p5⟩ := q2 c1
    have hw : wait1 A o wt = [] := by unfold wait1; rw [if_pos ⟨hg, by omega, by omega⟩, if_pos hk, if_neg c1]
    rw [if_neg c1] at a1
    have fin : ∀ t fv, fv = (stpA A).fuse → slots room A.room O n co d t → t.getD 7 undef = F 7 → t.getD 8 undef = F 7 → t.getD 9 undef = .slice none 0 0 → t.getD 10 undef = .int .i64 fv → t.getD 11 undef = .bool false → t.getD 12 undef = .int .i64 (A.steps + 1) → t.getD 13 undef = F 13 → t.getD 14 undef = F 14 → t.getD 15 undef = .int .i64 0 → IB room A.room O n co d F w1 Q o A wt W ⟨t, []⟩ W := by
      intro t fv hfv hs t7 t8 t9 t10 t11 t12 t13 t14 t15
      refine IB_mk gn cn gn cn (.slice none 0 0) hs ?_ ?_ t9 ?_ ?_ ?_ t13 t14 ?_ (Fr.refl _ _) ?_
      · rw [t7, E7.out, a1]; simp only; rw [s1]
      · rw [t8, E7.out, a1]
      · rw [t10, a1, hfv]
      · rw [t11, a1]; simp only; rw [p1, a3]
      · rw [t12, a1, ← p2]
      · rw [t15, a2, p3]
      · rw [a1, hw]
        exact ⟨by simp only; rw [s1]; exact law.now, .inl law.qn, law.now, .inl law.qn, World.ownsRow_nil W 0 30 6, fun k e => (by cases e), rfl, fun o ho => (by cases ho)⟩
    have FIN := Lib.hid fin
    have P4 := Lib.hid p4
    have P5 := Lib.hid p5
    have c1' : (A.fuse == 1) = false := by simpa using c1
    rw [hg] at e15
    by_cases c2 : 0 < A.fuse
    · have c3 : decide (0 < A.fuse) = true := by simpa using c2
      unfold frm
      rw [e14, e15, e10, e11, e12]
      clear fin a1 a2 hw q1 q2 p1 p2 p3 p4 p5 e14 e15 e10 e11 e12 e7 e8 e9 hg hk s1 s2 s3 s4
      conv => arg 2; whnf
      go_wp2
      exact FIN.out _ (A.fuse - 1) (P4.out c2).symm ⟨rfl, rfl, rfl, rfl, rfl⟩ rfl rfl rfl rfl rfl rfl rfl E14.out.symm rfl
    · have c3 : decide (0 < A.fuse) = false := by simpa using c2
      unfold frm
      rw [e14, e15, e10, e11, e12]
      clear fin a1 a2 hw q1 q2 p1 p2 p3 p4 p5 e14 e15 e10 e11 e12 e7 e8 e9 hg hk s1 s2 s3 s4
      conv => arg 2; whnf
      go_wp2
      exact FIN.out _ A.fuse (by rw [P5.out (by omega)]; omega) ⟨rfl, rfl, rfl, rfl, rfl⟩ rfl rfl rfl rfl rfl rfl rfl E14.out.symm rfl

theorem infoOp : (Try.prog.info? 30).map (fun i => (i.zero, i.size, i.bytes)) = some (some (.agg #[.int .i64 0, .string ⟨#[]⟩, .string ⟨#[]⟩, .slice none 0 0, .int .i64 0, .int .i64 0]), 6, 80) := by kernel_rfl
theorem step_append_op {w : World} {ops : Array Oper} {o : Oper} {a : Act} {K : Act → World → Prop} {Q : Exit → Act → World → Prop} {E : Prop} (hgd : o.guard = none) (s x : Operand) (ho : o.op = .call { callee := .builtin .append, args := #[s, x], argTypes := #[22, 22] })
    (B : Nat) (v : Value) (n : Nat) (xs : List Value) (hs : a.eval s = v) (hown : w.ownsRow B 30 6 v n xs) (ad : Addr) (m c : Nat) (news : List Value) (hl : news.length = m * 6) (hx : a.eval x = .slice (some ad) m c) (hnews : ∀ j u, news[j]? = some u → w.cell? (ad.add j) = some u) (h1 : ∀ u ∈ news, u.oneCell' = true)
    (hn : n + m ≤ 2000000) (hB : B ≤ w.heap.size)
    (h : ∀ v' w', w'.ownsRow B 30 6 v' (n + m) (xs ++ news) → w.grownBy w' v.ownBlock → K (a.put o.dst v') w') : if Region.wanted o (yielded ops a.tmps) = true then Oper.wp Try.prog o a w K Q else E := by
  obtain ⟨i0, hi, hz⟩ : ∃ i0, Try.prog.info? 30 = some i0 ∧ (i0.zero, i0.size, i0.bytes) = (some (.agg #[.int .i64 0, .string ⟨#[]⟩, .string ⟨#[]⟩, .slice none 0 0, .int .i64 0, .int .i64 0]), 6, 80) := Option.map_eq_some_iff.1 infoOp
  obtain ⟨hz0, hz1, hz2⟩ : i0.zero = some (.agg #[.int .i64 0, .string ⟨#[]⟩, .string ⟨#[]⟩, .slice none 0 0, .int .i64 0, .int .i64 0]) ∧ i0.size = 6 ∧ i0.bytes = 80 := by simpa using hz
  have hw : Region.wanted o (yielded ops a.tmps) = true := by simp [Region.wanted, hgd]
  rw [if_pos hw]
  obtain ⟨v', w', hrun, h2, h3, h4, _⟩ := run_append_own_at (P := Try.prog) w B 22 o.type 30 i0 _ 6 80 Try.underlying22 hi hz0 hz1 hz2 rfl (by decide) v n xs hown ad m c news hl hnews h1 (by unfold maxLen; omega) (by omega) hB
  unfold Oper.wp execOp
  simp only [ho, resolve, invoke, builtin, Sem.run_bind, Sem.run_pure, Result.andThen_ok, List.map_toArray, List.map_cons, List.map_nil, hs, hx, hrun]
  exact h v' w' h2 h3
theorem step_append_opn {w : World} {ops : Array Oper} {o : Oper} {a : Act} {K : Act → World → Prop} {Q : Exit → Act → World → Prop} {E : Prop} (hgd : o.guard = none) (s x : Operand) (ho : o.op = .call { callee := .builtin .append, args := #[s, x], argTypes := #[22, 22] })
    (B : Nat) (v : Value) (n : Nat) (xs : List Value) (hs : a.eval s = v) (hown : w.ownsRow B 30 6 v n xs) (hx : a.eval x = .slice none 0 0)
    (h : K (a.put o.dst v) w) : if Region.wanted o (yielded ops a.tmps) = true then Oper.wp Try.prog o a w K Q else E := by
  obtain ⟨i0, hi, hz⟩ : ∃ i0, Try.prog.info? 30 = some i0 ∧ (i0.zero, i0.size, i0.bytes) = (some (.agg #[.int .i64 0, .string ⟨#[]⟩, .string ⟨#[]⟩, .slice none 0 0, .int .i64 0, .int .i64 0]), 6, 80) := Option.map_eq_some_iff.1 infoOp
  have hw : Region.wanted o (yielded ops a.tmps) = true := by simp [Region.wanted, hgd]
  rw [if_pos hw]
  have hrun := run_append_owned_none (P := Try.prog) (w := w) B 22 o.type 30 i0 6 Try.underlying22 hi v n xs hown
  unfold Oper.wp execOp
  simp only [ho, resolve, invoke, builtin, Sem.run_bind, Sem.run_pure, Result.andThen_ok, List.map_toArray, List.map_cons, List.map_nil, hs, hx, hrun]
  exact h
theorem six_of {w w' : World} {ob : Nat} {o : OpV} (hC : Cel w ob 30 (opCells o)) (hb : w'.heap[ob]? = w.heap[ob]?) : w'.cell? ⟨ob, 0, none⟩ = some (.int .i64 o.k) ∧ w'.cell? ⟨ob, 1, none⟩ = some (.string o.s) ∧ w'.cell? ⟨ob, 2, none⟩ = some (.string o.t) ∧ w'.cell? ⟨ob, 3, none⟩ = some (.slice o.A o.b.length o.c) ∧ w'.cell? ⟨ob, 4, none⟩ = some (.int .i64 o.n) ∧ w'.cell? ⟨ob, 5, none⟩ = some (.int .i64 o.torn) := by
  have h := hC.of hb
  have y0 := h.cell 0
  have y1 := h.cell 1
  have y2 := h.cell 2
  have y3 := h.cell 3
  have y4 := h.cell 4
  have y5 := h.cell 5
  simp [opCells] at y0 y1 y2 y3 y4 y5
  exact ⟨y0, y1, y2, y3, y4, y5⟩
theorem cells_newA (w : World) (l : List Value) (t : TypeId) (ob : Obj) : ∀ j u, l[j]? = some u → ((w.alloc (.cells l.toArray t)).alloc ob).cell? ((⟨w.heap.size, 0, none⟩ : Addr).add j) = some u := by
  intro j u hu
  have h := cells_new w l t j u hu
  rw [Go.WideShapes.add_plain] at h ⊢
  exact (World.cell?_of_block (Below.heap_alloc _ ob w.heap.size (by simp))).trans h
theorem app_fr {w X w4 : World} {a b : Obj} {row : Option Nat} (hg : X.grownBy w4 row) (h1 : X.os = w.os) (h2 : X.tape = w.tape) (h3 : X.output = w.output) (h4 : X.heap = (w.heap.push a).push b) (hr : ∀ k, row = some k → w.heap.size ≤ k) : Fr (fun _ => False) w w4 := by
  have hX : Fr (fun _ => False) w X := by
    have hb : ∀ k, k < w.heap.size → X.heap[k]? = w.heap[k]? := fun k hk => by rw [h4, Array.getElem?_push, if_neg (by simp; omega), Array.getElem?_push, if_neg (by omega)]
    exact ⟨h1, h2, h3, by rw [h4]; simp; omega, fun k hk _ => hb k hk⟩
  exact hX.then (Fr.grown hg) (fun k e => .inr (hr k e))
theorem cells_newN (w : World) (l : List Value) (t : TypeId) (n : Nat) (hn : n = w.heap.size) : ∀ j u, l[j]? = some u → (w.alloc (.cells l.toArray t)).cell? ((⟨n, 0, none⟩ : Addr).add j) = some u := by
  subst hn
  exact cells_new w l t
theorem litN (w : World) (n B : Nat) (hn : n = w.heap.size) (hB : B ≤ w.heap.size) : (w.alloc (.cells #[] 30)).ownsRow B 30 6 (.slice (some ⟨n, 0, none⟩) 0 0) 0 [] := by
  subst hn
  exact World.ownsRow_lit w #[] 0 hB (by decide) rfl
theorem opL_one (o : OpV) : ∀ u ∈ opL o, u.oneCell' = true := by
  intro u hu
  simp [opL, opCells] at hu
  rcases hu with rfl | rfl | rfl | rfl | rfl | rfl <;> rfl
theorem opLs_one (wt : List OpV) : ∀ u ∈ wt.flatMap opL, u.oneCell' = true := by
  intro u hu
  obtain ⟨o, _, h⟩ := List.mem_flatMap.1 hu
  exact opL_one o u h
theorem opLs_len (wt : List OpV) : (wt.flatMap opL).length = wt.length * 6 := by
  induction wt with
  | nil => rfl
  | cons o wt ih => simp only [List.flatMap_cons, List.length_append, ih, List.length_cons]; simp [opL, opCells]; omega

noncomputable def p40 : Code := sub [1, 3, 1, 1, 1, 4, 1, 1, 3] pB
theorem app_fr1 {w X w4 : World} {a : Obj} {row : Option Nat} (hg : X.grownBy w4 row) (h1 : X.os = w.os) (h2 : X.tape = w.tape) (h3 : X.output = w.output) (h4 : X.heap = w.heap.push a) (hr : ∀ k, row = some k → w.heap.size ≤ k) : Fr (fun _ => False) w w4 := by
  have hX : Fr (fun _ => False) w X := by
    have hb : ∀ k, k < w.heap.size → X.heap[k]? = w.heap[k]? := fun k hk => by rw [h4, Array.getElem?_push, if_neg (by omega)]
    exact ⟨h1, h2, h3, by rw [h4]; simp, fun k hk _ => hb k hk⟩
  exact hX.then (Fr.grown hg) (fun k e => .inr (hr k e))
theorem row_cells {w w' : World} {g c : Nat} {wt : List OpV} (h : w.ownsRow 0 30 6 (.slice (some ⟨g, 0, none⟩) wt.length c) wt.length (wt.flatMap opL)) (hb : w'.heap[g]? = w.heap[g]?) : ∀ j u, (wt.flatMap opL)[j]? = some u → w'.cell? ((⟨g, 0, none⟩ : Addr).add j) = some u := by
  intro j u hj
  have hlt := (List.getElem?_eq_some_iff.1 hj).1
  have hl := opLs_len wt
  rw [Go.WideShapes.add_plain, Nat.zero_add, World.cell?_of_block hb, h.cellAt j (by omega)]
  exact hj
theorem cells_grown {X w3 : World} {row : Option Nat} {l : List Value} {g : Nat} (hg : X.grownBy w3 row) (h : ∀ j u, l[j]? = some u → X.cell? ((⟨g, 0, none⟩ : Addr).add j) = some u) (hlt : g < X.heap.size) (hne : row ≠ some g) : ∀ j u, l[j]? = some u → w3.cell? ((⟨g, 0, none⟩ : Addr).add j) = some u := by
  intro j u hj
  have := h j u hj
  rw [Go.WideShapes.add_plain] at this ⊢
  exact (World.cell?_of_block (hg.block g hlt (fun e => hne e.symm))).trans this

set_option maxRecDepth 100000 in
set_option maxHeartbeats 2000000 in
theorem r40_nil (Qx : Exit → Act → World → Prop) (room most : Int) (O : Option Addr) (n co d : Nat) (F : Nat → Value) (w2 : World) (ob : Nat) (o : OpV) (wt : List OpV) (hwt : wt = []) (e14 : F 14 = .pointer (some ⟨ob, 0, none⟩)) (e9 : F 9 = .slice none 0 0) (hC : Cel w2 ob 30 (opCells o)) (hwl : wt.length ≤ 1000)
    (hQ : ∀ t v4 w4, slots room most O n co d t → t.getD 7 undef = F 7 → t.getD 8 undef = F 8 → t.getD 9 undef = v4 → t.getD 10 undef = F 10 → t.getD 11 undef = F 11 → t.getD 12 undef = F 12 → t.getD 13 undef = F 13 → t.getD 14 undef = F 14 → t.getD 15 undef = F 15 → w4.ownsRow w2.heap.size 30 6 v4 (wt ++ [o]).length ((wt ++ [o]).flatMap opL) → Fr (fun _ => False) w2 w4 → Qx .normal ⟨t, []⟩ w4) :
    Code.wp Try.prog p40 Qx ⟨frm room most O n co d F, []⟩ w2 := by
  have HQ := Lib.hid hQ
  have E14 := Lib.hid e14
  subst hwt
  have y0 := hC.cell 0
  have y1 := hC.cell 1
  have y2 := hC.cell 2
  have y3 := hC.cell 3
  have y4 := hC.cell 4
  have y5 := hC.cell 5
  simp [opCells] at y0 y1 y2 y3 y4 y5
  have hob : ob < w2.heap.size := hC.lt
  unfold frm
  rw [e14, e9]
  clear e14 e9 hQ
  conv => arg 2; whnf
  go_region_held3 (fun w' => w'.cell? ⟨ob, 0, none⟩ = some (.int .i64 o.k) ∧ w'.cell? ⟨ob, 1, none⟩ = some (.string o.s) ∧ w'.cell? ⟨ob, 2, none⟩ = some (.string o.t) ∧ w'.cell? ⟨ob, 3, none⟩ = some (.slice o.A o.b.length o.c) ∧ w'.cell? ⟨ob, 4, none⟩ = some (.int .i64 o.n) ∧ w'.cell? ⟨ob, 5, none⟩ = some (.int .i64 o.torn))
    (first | exact ⟨y0, y1, y2, y3, y4, y5⟩ | exact six_of hC (Below.heap_alloc _ _ _ hob) | exact six_of hC ((Below.heap_alloc _ _ _ (by simp; omega)).trans (Below.heap_alloc _ _ _ hob)) | exact six_of hC b4 | exact six_of hC b3 | exact six_of hC ((Below.heap_alloc _ _ _ (by have := hf3.size; omega)).trans b3))
    (first
      | (refine step_append_opn (by rfl) _ _ (by rfl) w2.heap.size (.slice (some ⟨w2.heap.size, 0, none⟩) 0 0) 0 [] rfl (World.ownsRow_lit w2.drew #[] 0 (Nat.le_refl _) (by decide) rfl) rfl ?_)
      | (refine step_append_op (by rfl) _ _ (by rfl) w2.heap.size (.slice (some ⟨w2.heap.size, 0, none⟩) 0 0) 0 [] rfl ((World.ownsRow_lit w2.drew #[] 0 (Nat.le_refl _) (by decide) rfl).alloc _) ⟨w2.heap.size + 1, 0, none⟩ 1 1 (opL o) rfl rfl (cells_newN (w2.drew.alloc (.cells #[] 30)) (opL o) 30 (w2.heap.size + 1) (by simp)) (opL_one o) (by omega) (by simp; omega) ?_; intro v4 w4 hown4 hg4; have hf4 : Fr (fun _ => False) w2 w4 := app_fr hg4 rfl rfl rfl rfl (fun k e => (by cases e; simp)); have b4 : w4.heap[ob]? = w2.heap[ob]? := hf4.block ob hob (fun h => h))
      | (refine step_append_opn (by rfl) _ _ (by rfl) w2.heap.size (.slice (some ⟨w2.heap.size, 0, none⟩) 0 0) 0 [] rfl ((World.ownsRow_lit w2.drew #[] 0 (Nat.le_refl _) (by decide) rfl).alloc _) rfl ?_)
      | (refine step_append_opn (by rfl) _ _ (by rfl) w2.heap.size (.slice (some ⟨w2.heap.size + 1, 0, none⟩) 0 0) 0 [] rfl (litN (w2.drew.alloc (.cells (opL o).toArray 30)) (w2.heap.size + 1) w2.heap.size (by simp) (by simp)) rfl ?_)
      | (refine step_append_op (by rfl) _ _ (by rfl) w2.heap.size (.slice (some ⟨w2.heap.size + 1, 0, none⟩) 0 0) 0 [] rfl (litN (w2.drew.alloc (.cells (opL o).toArray 30)) (w2.heap.size + 1) w2.heap.size (by simp) (by simp)) ⟨w2.heap.size, 0, none⟩ 1 1 (opL o) rfl rfl (cells_newA w2.drew (opL o) _ _) (opL_one o) (by omega) (by simp; omega) ?_; intro v4 w4 hown4 hg4; have hf4 : Fr (fun _ => False) w2 w4 := app_fr hg4 rfl rfl rfl rfl (fun k e => (by cases e; simp)); have b4 : w4.heap[ob]? = w2.heap[ob]? := hf4.block ob hob (fun h => h)))
  all_goals
    exact HQ.out _ v4 w4 ⟨rfl, rfl, rfl, rfl, rfl⟩ rfl rfl rfl rfl rfl rfl rfl E14.out.symm rfl (by simpa using hown4) hf4

set_option maxRecDepth 100000 in
set_option maxHeartbeats 2000000 in
theorem r40_some (Qx : Exit → Act → World → Prop) (room most : Int) (O : Option Addr) (n co d : Nat) (F : Nat → Value) (w2 : World) (ob : Nat) (o : OpV) (wt : List OpV) (g9 c9 : Nat) (hwait : w2.ownsRow 0 30 6 (.slice (some ⟨g9, 0, none⟩) wt.length c9) wt.length (wt.flatMap opL)) (e14 : F 14 = .pointer (some ⟨ob, 0, none⟩)) (e9 : F 9 = .slice (some ⟨g9, 0, none⟩) wt.length c9) (hC : Cel w2 ob 30 (opCells o)) (hwl : wt.length ≤ 1000)
    (hQ : ∀ t v4 w4, slots room most O n co d t → t.getD 7 undef = F 7 → t.getD 8 undef = F 8 → t.getD 9 undef = v4 → t.getD 10 undef = F 10 → t.getD 11 undef = F 11 → t.getD 12 undef = F 12 → t.getD 13 undef = F 13 → t.getD 14 undef = F 14 → t.getD 15 undef = F 15 → w4.ownsRow w2.heap.size 30 6 v4 (wt ++ [o]).length ((wt ++ [o]).flatMap opL) → Fr (fun _ => False) w2 w4 → Qx .normal ⟨t, []⟩ w4) :
    Code.wp Try.prog p40 Qx ⟨frm room most O n co d F, []⟩ w2 := by
  have HQ := Lib.hid hQ
  have E14 := Lib.hid e14
  have hg9 : g9 < w2.heap.size := (hwait.lt g9 rfl).2
  have y0 := hC.cell 0
  have y1 := hC.cell 1
  have y2 := hC.cell 2
  have y3 := hC.cell 3
  have y4 := hC.cell 4
  have y5 := hC.cell 5
  simp [opCells] at y0 y1 y2 y3 y4 y5
  have hob : ob < w2.heap.size := hC.lt
  unfold frm
  rw [e14, e9]
  clear e14 e9 hQ
  conv => arg 2; whnf
  go_region_held3 (fun w' => w'.cell? ⟨ob, 0, none⟩ = some (.int .i64 o.k) ∧ w'.cell? ⟨ob, 1, none⟩ = some (.string o.s) ∧ w'.cell? ⟨ob, 2, none⟩ = some (.string o.t) ∧ w'.cell? ⟨ob, 3, none⟩ = some (.slice o.A o.b.length o.c) ∧ w'.cell? ⟨ob, 4, none⟩ = some (.int .i64 o.n) ∧ w'.cell? ⟨ob, 5, none⟩ = some (.int .i64 o.torn))
    (first | exact ⟨y0, y1, y2, y3, y4, y5⟩ | exact six_of hC (Below.heap_alloc _ _ _ hob) | exact six_of hC ((Below.heap_alloc _ _ _ (by simp; omega)).trans (Below.heap_alloc _ _ _ hob)) | exact six_of hC b4 | exact six_of hC b3 | exact six_of hC ((Below.heap_alloc _ _ _ (by have := hf3.size; omega)).trans b3))
    (first
      | (refine step_append_op (by rfl) _ _ (by rfl) w2.heap.size (.slice (some ⟨w2.heap.size, 0, none⟩) 0 0) 0 [] rfl (World.ownsRow_lit w2.drew #[] 0 (Nat.le_refl _) (by decide) rfl) ⟨g9, 0, none⟩ wt.length c9 (wt.flatMap opL) (opLs_len wt) rfl (row_cells hwait (Below.heap_alloc _ _ _ hg9)) (opLs_one wt) (by omega) (by simp) ?_; intro v3 w3 hown3 hg3; have hf3 : Fr (fun _ => False) w2 w3 := app_fr1 hg3 rfl rfl rfl rfl (fun k e => (by cases e; simp)); have b3 : w3.heap[ob]? = w2.heap[ob]? := hf3.block ob hob (fun h => h))
      | (refine step_append_op (by rfl) _ _ (by rfl) w2.heap.size (.slice (some ⟨w2.heap.size, 0, none⟩) 0 0) 0 [] rfl ((World.ownsRow_lit w2.drew #[] 0 (Nat.le_refl _) (by decide) rfl).alloc _) ⟨g9, 0, none⟩ wt.length c9 (wt.flatMap opL) (opLs_len wt) rfl (row_cells hwait ((Below.heap_alloc _ _ _ (by simp; omega)).trans (Below.heap_alloc _ _ _ hg9))) (opLs_one wt) (by omega) (by simp; omega) ?_; intro v3 w3 hown3 hg3; have hf3 : Fr (fun _ => False) w2 w3 := app_fr hg3 rfl rfl rfl rfl (fun k e => (by cases e; simp)); have b3 : w3.heap[ob]? = w2.heap[ob]? := hf3.block ob hob (fun h => h); have z3 := cells_grown hg3 (cells_newN (w2.drew.alloc (.cells #[] 30)) (opL o) 30 (w2.heap.size + 1) (by simp)) (by simp) (by simp [Value.ownBlock]))
      | (refine step_append_op (by rfl) _ _ (by rfl) w2.heap.size (.slice (some ⟨w2.heap.size + 1, 0, none⟩) 0 0) 0 [] rfl (litN (w2.drew.alloc (.cells (opL o).toArray 30)) (w2.heap.size + 1) w2.heap.size (by simp) (by simp)) ⟨g9, 0, none⟩ wt.length c9 (wt.flatMap opL) (opLs_len wt) rfl (row_cells hwait ((Below.heap_alloc _ _ _ (by simp; omega)).trans (Below.heap_alloc _ _ _ hg9))) (opLs_one wt) (by omega) (by simp; omega) ?_; intro v3 w3 hown3 hg3; have hf3 : Fr (fun _ => False) w2 w3 := app_fr hg3 rfl rfl rfl rfl (fun k e => (by cases e; simp)); have b3 : w3.heap[ob]? = w2.heap[ob]? := hf3.block ob hob (fun h => h); have z3 := cells_grown hg3 (cells_newA w2.drew (opL o) 30 (.cells #[] 30)) (by simp; omega) (by simp [Value.ownBlock]))
      | (refine step_append_op (by rfl) _ _ (by rfl) w2.heap.size v3 _ _ rfl hown3 _ 1 1 (opL o) rfl rfl z3 (opL_one o) (by omega) hf3.size ?_; intro v4 w4 hown4 hg4; have hf4 : Fr (fun _ => False) w2 w4 := hf3.then (Fr.grown hg4) (fun k e => .inr (hown3.lt k e).1); have b4 : w4.heap[ob]? = w2.heap[ob]? := hf4.block ob hob (fun h => h))
      | (refine step_append_op (by rfl) _ _ (by rfl) w2.heap.size v3 _ _ rfl (hown3.alloc _) ⟨w3.heap.size, 0, none⟩ 1 1 (opL o) rfl rfl (cells_new w3 (opL o) _) (opL_one o) (by omega) (by have := hf3.size; simp; omega) ?_; intro v4 w4 hown4 hg4; have hf4 : Fr (fun _ => False) w2 w4 := (hf3.trans (Fr.alloc _ _ _)).then (Fr.grown hg4) (fun k e => .inr (hown3.lt k e).1); have b4 : w4.heap[ob]? = w2.heap[ob]? := hf4.block ob hob (fun h => h)))
  all_goals
    exact HQ.out _ v4 w4 ⟨rfl, rfl, rfl, rfl, rfl⟩ rfl rfl rfl rfl rfl rfl rfl E14.out.symm rfl (by simpa using hown4) hf4

end Go.Proofs.Ytbdmlenapccdnaa
namespace Go.Proofs.Ytbdmlenapccdnaa
open Go.RowKit

theorem r40_t (Qx : Exit → Act → World → Prop) (room most : Int) (O : Option Addr) (n co d : Nat) (t : Array Value) (w2 : World) (ob : Nat) (o : OpV) (wt : List OpV) (v9 : Value) (hs : slots room most O n co d t) (e14 : t.getD 14 undef = .pointer (some ⟨ob, 0, none⟩)) (e9 : t.getD 9 undef = v9) (hC : Cel w2 ob 30 (opCells o)) (hwl : wt.length ≤ 1000)
    (hwait : w2.ownsRow 0 30 6 v9 wt.length (wt.flatMap opL))
    (hQ : ∀ t' v4 w4, slots room most O n co d t' → t'.getD 7 undef = t.getD 7 undef → t'.getD 8 undef = t.getD 8 undef → t'.getD 9 undef = v4 → t'.getD 10 undef = t.getD 10 undef → t'.getD 11 undef = t.getD 11 undef → t'.getD 12 undef = t.getD 12 undef → t'.getD 13 undef = t.getD 13 undef → t'.getD 14 undef = t.getD 14 undef → t'.getD 15 undef = t.getD 15 undef → w4.ownsRow w2.heap.size 30 6 v4 (wt ++ [o]).length ((wt ++ [o]).flatMap opL) → Fr (fun _ => False) w2 w4 → Qx .normal ⟨t', []⟩ w4) :
    Code.wp Try.prog p40 Qx ⟨t, []⟩ w2 := by
  rw [frm_of hs]
  rcases hwait.2 with ⟨rfl, hn⟩ | ⟨g9, c9, cur, rfl, _⟩
  · have hwt : wt = [] := List.eq_nil_of_length_eq_zero hn
    exact r40_nil Qx room most O n co d (fun k => t.getD k undef) w2 ob o wt hwt e14 e9 hC hwl hQ
  · exact r40_some Qx room most O n co d (fun k => t.getD k undef) w2 ob o wt g9 c9 hwait e14 e9 hC hwl hQ

/-- what a change leaves of the law's state -/
theorem Lw.chg {w1 W w2 w4 : World} {Q : Nat → Prop} {A : Ab} {wt : List OpV} {gn cn gs cs g2 c2 : Nat} {v9 v4 : Value} {o : OpV} (law : Lw w1 W Q A wt gn cn gs cs v9) (hk : o.k = 0 ∨ o.k = 1 ∧ o.s ≠ o.t ∨ o.k = 2) (ha : A1 A o = chgA A (acOf o)) (hw : wait1 A o wt = wt ++ [o]) (hwok : Wt w1 o)
    (h2 : FlV w2 g2 c2 (didL A.now o)) (hge : W.heap.size ≤ g2 ∨ g2 = gn ∧ c2 = cn ∧ didL A.now o = A.now) (hf2 : Fr (fun _ => False) W w2) (h4 : w4.ownsRow w2.heap.size 30 6 v4 (wt ++ [o]).length ((wt ++ [o]).flatMap opL)) (hf4 : Fr (fun _ => False) w2 w4) :
    Lw w1 w4 (fun k => Q k ∨ (W.heap.size ≤ k ∧ k < w4.heap.size)) (A1 A o) (wait1 A o wt) g2 c2 gs cs v4 := by
  obtain ⟨s1, s2, s3, s4⟩ := stpA_rest A
  rw [ha, hw]
  have hn : (chgA A (acOf o)).now = didL A.now o := (did_act hk).symm
  have hs : (chgA A (acOf o)).safe = A.safe := s2
  refine ⟨by rw [hn]; exact h2.fr hf4 (fun h => h), ?_, by rw [hs]; exact (law.safe.fr hf2 (fun h => h)).fr hf4 (fun h => h), .inl law.qs, ownsRow_base_a h4 (Nat.zero_le _), fun k e => .inr ⟨Nat.le_trans hf2.size (h4.lt k e).1, (h4.lt k e).2⟩, ?_, fun o' ho' => ?_⟩
  · rcases hge with hge | ⟨rfl, _, _⟩
    · exact .inr ⟨hge, Nat.lt_of_lt_of_le h2.lt hf4.size⟩
    · exact .inl law.qn
  · show A.pend ++ [acOf o] = _
    rw [law.pend]
    simp
  · rcases List.mem_append.1 ho' with ho' | ho'
    · exact law.wok o' ho'
    · simp at ho'
      subst ho'
      exact hwok

set_option maxRecDepth 100000 in
set_option maxHeartbeats 2000000 in
theorem sgB_chg (Qx : Exit → Act → World → Prop) (room : Int) (O : Option Addr) (n co d : Nat) (F : Nat → Value) (w1 W : World) (Q : Nat → Prop) (ob gn cn gs cs : Nat) (v9 : Value) (o : OpV) (A : Ab) (wt : List OpV) (h : HypB w1 Q F W ob gn cn gs cs v9 o A wt) (hg : want1 A o = 0) (hk : o.k = 0 ∨ o.k = 1 ∧ o.s ≠ o.t ∨ o.k = 2) :
    Code.wp Try.prog pB (Exit.then (IB room A.room O n co d F w1 Q o A wt W) Qx) ⟨frm room A.room O n co d F, []⟩ W := by
  have hwok : Wt w1 o := ⟨h.hok, hk, h.hb⟩
  obtain ⟨e7, e8, e9, e10, e11, e12, e14, e15, hC, law, hl, hu, hr, hok, hb, hfr, hfz, hst, hwl⟩ := h
  have ha : A1 A o = chgA A (acOf o) ∧ want2 A o = stpC A ∧ A.off = false := by
    rcases hk with hk | ⟨hk, hs⟩ | hk
    · exact goes0 hg hk
    · have := goes1 hg hk
      rw [if_neg hs] at this
      exact this
    · exact goes2 hg hk
  obtain ⟨a1, a2, a3⟩ := ha
  have hw : wait1 A o wt = wt ++ [o] := by
    unfold wait1
    rw [if_pos ⟨hg, by omega, by omega⟩, if_neg (by omega), if_neg]
    rintro ⟨h1, h2⟩
    rcases hk with hk | ⟨hk, hs⟩ | hk
    · omega
    · exact hs h2
    · omega
  obtain ⟨q1, q2⟩ := stp_vals A
  obtain ⟨s1, s2, s3, s4⟩ := stpA_rest A
  have x0 := hC.cell 0
  have x1 := hC.cell 1
  have x2 := hC.cell 2
  have x3 := hC.cell 3
  have x4 := hC.cell 4
  have x5 := hC.cell 5
  simp [opCells] at x0 x1 x2 x3 x4 x5
  have kD := Lib.hid (did_any W gn cn A.now o law.now hl (hok.rd.fr hfr) (by omega) (by omega))
  have hfin : ∀ (fv : Int) (bv : Bool) (sv : Int) (cv : Int), fv = (stpA A).fuse → bv = (stpA A).off → sv = (stpA A).steps → cv = stpC A → ∀ g2 c2 w2, FlV w2 g2 c2 (didL A.now o) → (W.heap.size ≤ g2 ∨ g2 = gn ∧ c2 = cn ∧ didL A.now o = A.now) → Fr (fun _ => False) W w2 → ∀ t, slots room A.room O n co d t → t.getD 14 undef = .pointer (some ⟨ob, 0, none⟩) → t.getD 9 undef = v9 → t.getD 7 undef = .slice (some ⟨g2, 0, none⟩) (didL A.now o).length c2 → t.getD 8 undef = F 8 → t.getD 10 undef = .int .i64 fv → t.getD 11 undef = .bool bv → t.getD 12 undef = .int .i64 sv → t.getD 13 undef = F 13 → t.getD 15 undef = .int .i64 cv →
      Code.wp Try.prog p40 (Exit.then (IB room A.room O n co d F w1 Q o A wt W) Qx) ⟨t, []⟩ w2 := by
    intro fv bv sv cv hfv hbv hsv hcv g2 c2 w2 h2 hge hf2 t hs t14 t9 t7 t8 t10 t11 t12 t13 t15
    refine r40_t _ room A.room O n co d t w2 ob o wt v9 hs t14 t9 (hC.of (hf2.block ob hC.lt (fun h => h))) hwl (own_fr law.wait hf2 (fun _ _ h => h)) ?_
    intro t' v4 w4 hs' u7 u8 u9 u10 u11 u12 u13 u14 u15 h4 hf4
    have hL := law.chg hk a1 hw hwok h2 hge hf2 h4 hf4
    have hn : (A1 A o).now = didL A.now o := by rw [a1]; exact (did_act hk).symm
    refine IB_mk g2 c2 gs cs v4 hs' ?_ ?_ u9 ?_ ?_ ?_ (u13.trans t13) (u14.trans (t14.trans e14.symm)) ?_ (hf2.trans hf4) hL
    · rw [u7, t7, hn]
    · rw [u8, t8, e8, a1]; show _ = Value.slice _ (stpA A).safe.length _; rw [s2]
    · rw [u10, t10, a1, hfv]; rfl
    · rw [u11, t11, a1, hbv]; rfl
    · rw [u12, t12, a1, hsv]; rfl
    · rw [u15, t15, a2, hcv]
  have FIN := Lib.hid hfin
  have E8 := Lib.hid e8
  have hk3 : (o.k == 3) = false := by simp; omega
  have d2 : decide (0 ≤ o.k) = true := by simp; omega
  have d3 : decide (o.k ≤ 3) = true := by simp; omega
  have Q1 := Lib.hid q1
  have Q2 := Lib.hid q2
  have hc : (o.k != 1) = true ∨ ((o.k != 1) = false ∧ (o.s.toList == o.t.toList) = false ∧ (o.s.toList != o.t.toList) = true) := by
    rcases hk with hk | ⟨hk, hs⟩ | hk
    · exact .inl (by simp [hk])
    · have := str_ne hs
      exact .inr ⟨by simp [hk], this, by simp only [bne, this]; rfl⟩
    · exact .inl (by simp [hk])
  rw [hg] at e15
  rw [a3] at e11
  have A3 := Lib.hid a3
  rcases hc with kb | ⟨kb, ts, ts2⟩
  all_goals
    by_cases c1 : A.fuse = 1
    · rw [c1] at e10
      have P := Lib.hid (Q1.out c1)
      clear c1
      unfold frm
      rw [e7, e14, e15, e10, e11, e12, e9]
      clear e14 e15 e10 e11 e12 e7 e8 e9 hg hk a1 a2 hw q1 q2 hfin s1 s2 s3 s4 a3 hwok
      conv => arg 2; whnf
      go_wp2_with fail
      refine (show Calls Try.prog 12 #[_, opVal o] W _ from kD.out).mono ?_
      intro e w2 hP
      obtain ⟨g2, c2, rfl, h2, hge2, hf2⟩ := hP
      have hC2 := hC.of (hf2.block ob hC.lt (fun h => h))
      have y0 := hC2.cell 0
      have y1 := hC2.cell 1
      have y2 := hC2.cell 2
      simp [opCells] at y0 y1 y2
      have HG := Lib.hid hge2
      clear hge2 x0 x1 x2 x3 x4 x5
      go_wp2_with fail
      exact FIN.out (0) true (A.steps) 10 P.out.1.symm P.out.2.1.symm P.out.2.2.1.symm P.out.2.2.2.symm g2 c2 w2 h2 HG.out hf2 _ ⟨rfl, rfl, rfl, rfl, rfl⟩ rfl rfl rfl rfl rfl rfl rfl rfl rfl
    · have c1' : (A.fuse == 1) = false := by simpa using c1
      have P := Lib.hid (Q2.out c1)
      by_cases cpos : 0 < A.fuse
      · have c3 : decide (0 < A.fuse) = true := by simpa using cpos
        unfold frm
        rw [e7, e14, e15, e10, e11, e12, e9]
        clear e14 e15 e10 e11 e12 e7 e8 e9 hg hk a1 a2 hw q1 q2 hfin s1 s2 s3 s4 a3 hwok
        conv => arg 2; whnf
        go_wp2_with fail
        refine (show Calls Try.prog 12 #[_, opVal o] W _ from kD.out).mono ?_
        intro e w2 hP
        obtain ⟨g2, c2, rfl, h2, hge2, hf2⟩ := hP
        have hC2 := hC.of (hf2.block ob hC.lt (fun h => h))
        have y0 := hC2.cell 0
        have y1 := hC2.cell 1
        have y2 := hC2.cell 2
        simp [opCells] at y0 y1 y2
        have HG := Lib.hid hge2
        clear hge2 x0 x1 x2 x3 x4 x5
        go_wp2_with fail
        exact FIN.out (A.fuse - 1) false (A.steps + 1) 0 (P.out.2.2.2.1 cpos).symm (by rw [P.out.1, A3.out]) P.out.2.1.symm P.out.2.2.1.symm g2 c2 w2 h2 HG.out hf2 _ ⟨rfl, rfl, rfl, rfl, rfl⟩ rfl rfl rfl rfl rfl rfl rfl rfl rfl
      · have c3 : decide (0 < A.fuse) = false := by simpa using cpos
        unfold frm
        rw [e7, e14, e15, e10, e11, e12, e9]
        clear e14 e15 e10 e11 e12 e7 e8 e9 hg hk a1 a2 hw q1 q2 hfin s1 s2 s3 s4 a3 hwok
        conv => arg 2; whnf
        go_wp2_with fail
        refine (show Calls Try.prog 12 #[_, opVal o] W _ from kD.out).mono ?_
        intro e w2 hP
        obtain ⟨g2, c2, rfl, h2, hge2, hf2⟩ := hP
        have hC2 := hC.of (hf2.block ob hC.lt (fun h => h))
        have y0 := hC2.cell 0
        have y1 := hC2.cell 1
        have y2 := hC2.cell 2
        simp [opCells] at y0 y1 y2
        have HG := Lib.hid hge2
        clear hge2 x0 x1 x2 x3 x4 x5
        go_wp2_with fail
        exact FIN.out (A.fuse) false (A.steps + 1) 0 (by rw [P.out.2.2.2.2 (by omega)]; omega) (by rw [P.out.1, A3.out]) P.out.2.1.symm P.out.2.2.1.symm g2 c2 w2 h2 HG.out hf2 _ ⟨rfl, rfl, rfl, rfl, rfl⟩ rfl rfl rfl rfl rfl rfl rfl rfl rfl

set_option maxRecDepth 100000 in
set_option maxHeartbeats 2000000 in
theorem sgB_stay (Qx : Exit → Act → World → Prop) (room : Int) (O : Option Addr) (n co d : Nat) (F : Nat → Value) (w1 W : World) (Q : Nat → Prop) (ob gn cn gs cs : Nat) (v9 : Value) (o : OpV) (A : Ab) (wt : List OpV) (h : HypB w1 Q F W ob gn cn gs cs v9 o A wt) (hg : want1 A o = 0) (hk : o.k = 1) (hst0 : o.s = o.t) :
    Code.wp Try.prog pB (Exit.then (IB room A.room O n co d F w1 Q o A wt W) Qx) ⟨frm room A.room O n co d F, []⟩ W := by
  obtain ⟨e7, e8, e9, e10, e11, e12, e14, e15, hC, law, hl, hu, hr, hok, hb, hfr, hfz, hst, hwl⟩ := h
  have ha := goes1 hg hk
  rw [if_pos hst0] at ha
  obtain ⟨a1, a2, a3⟩ := ha
  have hw : wait1 A o wt = wt := by
    unfold wait1
    rw [if_pos ⟨hg, by omega, by omega⟩, if_neg (by omega), if_pos ⟨hk, hst0⟩]
  have hdd : didL A.now o = A.now := by unfold didL; rw [if_neg (by omega), if_pos hk, if_pos hst0]
  obtain ⟨q1, q2⟩ := stp_vals A
  obtain ⟨s1, s2, s3, s4⟩ := stpA_rest A
  have x0 := hC.cell 0
  have x1 := hC.cell 1
  have x2 := hC.cell 2
  have x3 := hC.cell 3
  have x4 := hC.cell 4
  have x5 := hC.cell 5
  simp [opCells] at x0 x1 x2 x3 x4 x5
  have kD := Lib.hid (did_any W gn cn A.now o law.now hl (hok.rd.fr hfr) (by omega) (by omega))
  rw [hdd] at kD
  have hfin : ∀ (fv : Int) (bv : Bool) (sv : Int) (cv : Int), fv = (stpA A).fuse → bv = (stpA A).off → sv = (stpA A).steps → cv = stpC A → ∀ g2 c2 w2, FlV w2 g2 c2 A.now → (W.heap.size ≤ g2 ∨ g2 = gn ∧ c2 = cn ∧ A.now = A.now) → Fr (fun _ => False) W w2 → ∀ t, slots room A.room O n co d t → t.getD 14 undef = .pointer (some ⟨ob, 0, none⟩) → t.getD 9 undef = v9 → t.getD 7 undef = .slice (some ⟨g2, 0, none⟩) A.now.length c2 → t.getD 8 undef = F 8 → t.getD 10 undef = .int .i64 fv → t.getD 11 undef = .bool bv → t.getD 12 undef = .int .i64 sv → t.getD 13 undef = F 13 → t.getD 15 undef = .int .i64 cv →
      IB room A.room O n co d F w1 Q o A wt W ⟨t, []⟩ w2 := by
    intro fv bv sv cv hfv hbv hsv hcv g2 c2 w2 h2 hge hf2 t hs t14 t9 t7 t8 t10 t11 t12 t13 t15
    refine IB_mk g2 c2 gs cs v9 hs ?_ ?_ t9 ?_ ?_ ?_ t13 (t14.trans e14.symm) ?_ hf2 ?_
    · rw [t7, a1, s1]
    · rw [t8, e8, a1, s2]
    · rw [t10, a1, hfv]
    · rw [t11, a1, hbv]
    · rw [t12, a1, hsv]
    · rw [t15, a2, hcv]
    · rw [a1, hw]
      refine ⟨by rw [s1]; exact h2, ?_, by rw [s2]; exact law.safe.fr hf2 (fun h => h), .inl law.qs, own_fr law.wait hf2 (fun _ _ h => h), fun k e => .inl (law.qw k e), by rw [s3]; exact law.pend, law.wok⟩
      rcases hge with hge | ⟨rfl, _, _⟩
      · exact .inr ⟨hge, h2.lt⟩
      · exact .inl law.qn
  have FIN := Lib.hid hfin
  have hk3 : (o.k == 3) = false := by simp; omega
  have d2 : decide (0 ≤ o.k) = true := by simp; omega
  have d3 : decide (o.k ≤ 3) = true := by simp; omega
  have kb : (o.k != 1) = false := by simp [hk]
  have ts : (o.s.toList == o.t.toList) = true := by rw [hst0]; simp
  have ts2 : (o.s.toList != o.t.toList) = false := by rw [hst0]; simp
  have Q1 := Lib.hid q1
  have Q2 := Lib.hid q2
  rw [hg] at e15
  rw [a3] at e11
  have A3 := Lib.hid a3
  clear hst0
  by_cases c1 : A.fuse = 1
  · rw [c1] at e10
    have P := Lib.hid (Q1.out c1)
    clear c1
    unfold frm
    rw [e7, e14, e15, e10, e11, e12, e9]
    clear e14 e15 e10 e11 e12 e7 e8 e9 hg hk a1 a2 hw q1 q2 hfin s1 s2 s3 s4 a3 hdd
    conv => arg 2; whnf
    go_wp2_with fail
    refine (show Calls Try.prog 12 #[_, opVal o] W _ from kD.out).mono ?_
    intro e w2 hP
    obtain ⟨g2, c2, rfl, h2, hge2, hf2⟩ := hP
    have hC2 := hC.of (hf2.block ob hC.lt (fun h => h))
    have y0 := hC2.cell 0
    have y1 := hC2.cell 1
    have y2 := hC2.cell 2
    simp [opCells] at y0 y1 y2
    have HG := Lib.hid hge2
    clear hge2 x0 x1 x2 x3 x4 x5
    go_wp2_with fail
    exact FIN.out (0) true (A.steps) 10 P.out.1.symm P.out.2.1.symm P.out.2.2.1.symm P.out.2.2.2.symm g2 c2 w2 h2 HG.out hf2 _ ⟨rfl, rfl, rfl, rfl, rfl⟩ rfl rfl rfl rfl rfl rfl rfl rfl rfl
  · have c1' : (A.fuse == 1) = false := by simpa using c1
    have P := Lib.hid (Q2.out c1)
    by_cases cpos : 0 < A.fuse
    · have c3 : decide (0 < A.fuse) = true := by simpa using cpos
      unfold frm
      rw [e7, e14, e15, e10, e11, e12, e9]
      clear e14 e15 e10 e11 e12 e7 e8 e9 hg hk a1 a2 hw q1 q2 hfin s1 s2 s3 s4 a3 hdd
      conv => arg 2; whnf
      go_wp2_with fail
      refine (show Calls Try.prog 12 #[_, opVal o] W _ from kD.out).mono ?_
      intro e w2 hP
      obtain ⟨g2, c2, rfl, h2, hge2, hf2⟩ := hP
      have hC2 := hC.of (hf2.block ob hC.lt (fun h => h))
      have y0 := hC2.cell 0
      have y1 := hC2.cell 1
      have y2 := hC2.cell 2
      simp [opCells] at y0 y1 y2
      have HG := Lib.hid hge2
      clear hge2 x0 x1 x2 x3 x4 x5
      go_wp2_with fail
      exact FIN.out (A.fuse - 1) false (A.steps + 1) 0 (P.out.2.2.2.1 cpos).symm (by rw [P.out.1, A3.out]) P.out.2.1.symm P.out.2.2.1.symm g2 c2 w2 h2 HG.out hf2 _ ⟨rfl, rfl, rfl, rfl, rfl⟩ rfl rfl rfl rfl rfl rfl rfl rfl rfl
    · have c3 : decide (0 < A.fuse) = false := by simpa using cpos
      unfold frm
      rw [e7, e14, e15, e10, e11, e12, e9]
      clear e14 e15 e10 e11 e12 e7 e8 e9 hg hk a1 a2 hw q1 q2 hfin s1 s2 s3 s4 a3 hdd
      conv => arg 2; whnf
      go_wp2_with fail
      refine (show Calls Try.prog 12 #[_, opVal o] W _ from kD.out).mono ?_
      intro e w2 hP
      obtain ⟨g2, c2, rfl, h2, hge2, hf2⟩ := hP
      have hC2 := hC.of (hf2.block ob hC.lt (fun h => h))
      have y0 := hC2.cell 0
      have y1 := hC2.cell 1
      have y2 := hC2.cell 2
      simp [opCells] at y0 y1 y2
      have HG := Lib.hid hge2
      clear hge2 x0 x1 x2 x3 x4 x5
      go_wp2_with fail
      exact FIN.out (A.fuse) false (A.steps + 1) 0 (by rw [P.out.2.2.2.2 (by omega)]; omega) (by rw [P.out.1, A3.out]) P.out.2.1.symm P.out.2.2.1.symm g2 c2 w2 h2 HG.out hf2 _ ⟨rfl, rfl, rfl, rfl, rfl⟩ rfl rfl rfl rfl rfl rfl rfl rfl rfl

theorem sgB (Qx : Exit → Act → World → Prop) (room : Int) (O : Option Addr) (n co d : Nat) (F : Nat → Value) (w1 W : World) (Q : Nat → Prop) (ob gn cn gs cs : Nat) (v9 : Value) (o : OpV) (A : Ab) (wt : List OpV) (h : HypB w1 Q F W ob gn cn gs cs v9 o A wt) :
    Code.wp Try.prog pB (Exit.then (IB room A.room O n co d F w1 Q o A wt W) Qx) ⟨frm room A.room O n co d F, []⟩ W := by
  by_cases hg : want1 A o = 0 ∧ 0 ≤ o.k ∧ o.k ≤ 3
  · obtain ⟨hg, h0, h3⟩ := hg
    by_cases k3 : o.k = 3
    · exact sgB_3 Qx room O n co d F w1 W Q ob gn cn gs cs v9 o A wt h hg k3
    · by_cases k1 : o.k = 1
      · by_cases hs : o.s = o.t
        · exact sgB_stay Qx room O n co d F w1 W Q ob gn cn gs cs v9 o A wt h hg k1 hs
        · exact sgB_chg Qx room O n co d F w1 W Q ob gn cn gs cs v9 o A wt h hg (.inr (.inl ⟨k1, hs⟩))
      · exact sgB_chg Qx room O n co d F w1 W Q ob gn cn gs cs v9 o A wt h hg (by omega)
  · exact sgB_no Qx room O n co d F w1 W Q ob gn cn gs cs v9 o A wt h hg

end Go.Proofs.Ytbdmlenapccdnaa
namespace Go.Proofs.Ytbdmlenapccdnaa
open Go.RowKit

structure HypC (w1 : World) (Q : Nat → Prop) (F : Nat → Value) (W : World) (d m ob gn cn gs cs : Nat) (v9 : Value) (o : OpV) (A : Ab) (wt : List OpV) : Prop where
  e7 : F 7 = .slice (some ⟨gn, 0, none⟩) (A1 A o).now.length cn
  e8 : F 8 = .slice (some ⟨gs, 0, none⟩) (A1 A o).safe.length cs
  e9 : F 9 = v9
  e10 : F 10 = .int .i64 (A1 A o).fuse
  e11 : F 11 = .bool (A1 A o).off
  e12 : F 12 = .int .i64 (A1 A o).steps
  e14 : F 14 = .pointer (some ⟨ob, 0, none⟩)
  e15 : F 15 = .int .i64 (want2 A o)
  e18 : F 18 = .int .i64 0
  hC : Cel W ob 30 (opCells o)
  qo : Q ob
  law : Lw w1 W Q (A1 A o) (wait1 A o wt) gn cn gs cs v9
  many : Mny w1 W Q 1 (fun _ => d) m (fun _ => A)
  hm : m < 1000
  hok : OpOk w1 o
  hb : o.b.length ≤ 300

/-- behind the third piece -/
def IC (room most : Int) (O : Option Addr) (n co d m : Nat) (F : Nat → Value) (w1 : World) (o : OpV) (A : Ab) (wt : List OpV) (a : Act) (W' : World) : Prop :=
  ∃ F' Q gn cn gs cs v9, a = ⟨frm room most O n co d F', []⟩ ∧ F' 7 = .slice (some ⟨gn, 0, none⟩) (A2 A o).now.length cn ∧ F' 8 = .slice (some ⟨gs, 0, none⟩) (A2 A o).safe.length cs ∧ F' 9 = v9 ∧ F' 10 = .int .i64 (A2 A o).fuse ∧ F' 11 = .bool (A2 A o).off ∧ F' 12 = .int .i64 (A2 A o).steps ∧ F' 13 = F 13 ∧ F' 15 = .int .i64 (want2 A o) ∧ F' 18 = .int .i64 (want2 A o) ∧
    Lw w1 W' Q (A2 A o) (wait2 A o wt) gn cn gs cs v9 ∧ Mny w1 W' Q 1 (fun _ => d) (m + 1) (fun _ => A2 A o)
theorem IC_mk {room most : Int} {O : Option Addr} {n co d m : Nat} {F : Nat → Value} {w1 : World} {o : OpV} {A : Ab} {wt : List OpV} {W' : World} {t : Array Value} (Q : Nat → Prop) (gn cn gs cs : Nat) (v9 : Value) (h : slots room most O n co d t) (h7 : t.getD 7 undef = .slice (some ⟨gn, 0, none⟩) (A2 A o).now.length cn) (h8 : t.getD 8 undef = .slice (some ⟨gs, 0, none⟩) (A2 A o).safe.length cs) (h9 : t.getD 9 undef = v9) (h10 : t.getD 10 undef = .int .i64 (A2 A o).fuse) (h11 : t.getD 11 undef = .bool (A2 A o).off) (h12 : t.getD 12 undef = .int .i64 (A2 A o).steps) (h13 : t.getD 13 undef = F 13) (h15 : t.getD 15 undef = .int .i64 (want2 A o)) (h18 : t.getD 18 undef = .int .i64 (want2 A o))
    (hL : Lw w1 W' Q (A2 A o) (wait2 A o wt) gn cn gs cs v9) (hM : Mny w1 W' Q 1 (fun _ => d) (m + 1) (fun _ => A2 A o)) : IC room most O n co d m F w1 o A wt ⟨t, []⟩ W' :=
  ⟨_, Q, gn, cn, gs, cs, v9, by rw [← frm_of h], h7, h8, h9, h10, h11, h12, h13, h15, h18, hL, hM⟩
theorem one_if {B : Ab} : (fun j : Nat => if j = 0 then B else B) = fun _ => B := by funext j; split <;> rfl
theorem Mny.one {w1 W : World} {Q : Nat → Prop} {d m : Nat} {A B : Ab} (h : Mny w1 W Q 1 (fun _ => d) m (fun j => if j = 0 then B else A)) : Mny w1 W Q 1 (fun _ => d) m (fun _ => B) :=
  h.congr (fun _ _ => rfl) (fun j hj => by rw [if_pos (by omega)])
/-- the end of a call that the law has done already -/
theorem IC_done {room : Int} {O : Option Addr} {n co d m : Nat} {F : Nat → Value} {w1 W W' : World} {Q : Nat → Prop} {ob gn cn gs cs : Nat} {v9 : Value} {o : OpV} {A : Ab} {wt : List OpV} (h : HypC w1 Q F W d m ob gn cn gs cs v9 o A wt) (hk5 : o.k ≠ 5) (hk6 : o.k ≠ 6) (hM : Mny w1 W' Q 1 (fun _ => d) (m + 1) (fun _ => A1 A o)) (hQ : ∀ k, Q k → W'.heap[k]? = W.heap[k]?)
    {t : Array Value} (hs : slots room A.room O n co d t) (t7 : t.getD 7 undef = F 7) (t8 : t.getD 8 undef = F 8) (t9 : t.getD 9 undef = F 9) (t10 : t.getD 10 undef = F 10) (t11 : t.getD 11 undef = F 11) (t12 : t.getD 12 undef = F 12) (t13 : t.getD 13 undef = F 13) (t15 : t.getD 15 undef = F 15) (t18 : t.getD 18 undef = .int .i64 (want2 A o)) : IC room A.room O n co d m F w1 o A wt ⟨t, []⟩ W' := by
  have e2 : A2 A o = A1 A o := by unfold A2; rw [if_neg hk5, if_neg hk6]
  have ew : wait2 A o wt = wait1 A o wt := by unfold wait2; rw [if_neg hk6]
  refine IC_mk Q gn cn gs cs v9 hs ?_ ?_ (t9.trans h.e9) ?_ ?_ ?_ t13 (t15.trans h.e15) t18 ?_ ?_
  · rw [t7, h.e7, e2]
  · rw [t8, h.e8, e2]
  · rw [t10, h.e10, e2]
  · rw [t11, h.e11, e2]
  · rw [t12, h.e12, e2]
  · rw [e2, ew]; exact h.law.blk hQ
  · rw [e2]; exact hM

set_option maxRecDepth 100000 in
set_option maxHeartbeats 2000000 in
theorem sgC_1 (Qx : Exit → Act → World → Prop) (room : Int) (O : Option Addr) (n co d m : Nat) (F : Nat → Value) (w1 W : World) (Q : Nat → Prop) (ob gn cn gs cs : Nat) (v9 : Value) (o : OpV) (A : Ab) (wt : List OpV) (h : HypC w1 Q F W d m ob gn cn gs cs v9 o A wt) (hk : o.k = 1) :
    Code.wp Try.prog pC (Exit.then (IC room A.room O n co d m F w1 o A wt) Qx) ⟨frm room A.room O n co d F, []⟩ W := by
  have x0 := h.hC.cell 0
  have x1 := h.hC.cell 1
  have x2 := h.hC.cell 2
  simp [opCells] at x0 x1 x2
  rw [hk] at x0
  have kM := Lib.hid (Move_many h.many (i := 0) (by omega) o.s o.t h.hok.ss h.hok.ts (by have := h.hm; omega))
  have ha : A1 A o = (mvA A o.s o.t).1 ∧ want2 A o = (mvA A o.s o.t).2 := by unfold A1 want2; simp [hk]
  have HA := Lib.hid ha
  have HH := Lib.hid h
  have HK := Lib.hid hk
  have e14 := h.e14
  have e18 := h.e18
  have E14 := Lib.hid e14
  unfold frm
  rw [e14, e18]
  clear e14 e18 hk h ha
  conv => arg 2; whnf
  go_wp2_with fail
  refine kM.out.mono ?_
  rintro e w5 ⟨rfl, h5, q5⟩
  have h5' := h5.one
  rw [← HA.out.1] at h5'
  rw [← HA.out.2]
  clear h5
  go_wp2
  exact IC_done HH.out (by rw [HK.out]; decide) (by rw [HK.out]; decide) h5' q5 ⟨rfl, rfl, rfl, rfl, rfl⟩ rfl rfl rfl rfl rfl rfl rfl rfl rfl

set_option maxRecDepth 100000 in
set_option maxHeartbeats 2000000 in
theorem sgC_2 (Qx : Exit → Act → World → Prop) (room : Int) (O : Option Addr) (n co d m : Nat) (F : Nat → Value) (w1 W : World) (Q : Nat → Prop) (ob gn cn gs cs : Nat) (v9 : Value) (o : OpV) (A : Ab) (wt : List OpV) (h : HypC w1 Q F W d m ob gn cn gs cs v9 o A wt) (hk : o.k = 2) :
    Code.wp Try.prog pC (Exit.then (IC room A.room O n co d m F w1 o A wt) Qx) ⟨frm room A.room O n co d F, []⟩ W := by
  have x0 := h.hC.cell 0
  have x1 := h.hC.cell 1
  simp [opCells] at x0 x1
  rw [hk] at x0
  have kM := Lib.hid (Drop_many h.many (i := 0) (by omega) o.s h.hok.ss (by have := h.hm; omega))
  have ha : A1 A o = (drA A o.s).1 ∧ want2 A o = (drA A o.s).2 := by unfold A1 want2; simp [hk]
  have HA := Lib.hid ha
  have HH := Lib.hid h
  have HK := Lib.hid hk
  have e14 := h.e14
  have e18 := h.e18
  have E14 := Lib.hid e14
  unfold frm
  rw [e14, e18]
  clear e14 e18 hk h ha
  conv => arg 2; whnf
  go_wp2_with fail
  refine kM.out.mono ?_
  rintro e w5 ⟨rfl, h5, q5⟩
  have h5' := h5.one
  rw [← HA.out.1] at h5'
  rw [← HA.out.2]
  clear h5
  go_wp2
  exact IC_done HH.out (by rw [HK.out]; decide) (by rw [HK.out]; decide) h5' q5 ⟨rfl, rfl, rfl, rfl, rfl⟩ rfl rfl rfl rfl rfl rfl rfl rfl rfl

set_option maxRecDepth 100000 in
set_option maxHeartbeats 2000000 in
theorem sgC_3 (Qx : Exit → Act → World → Prop) (room : Int) (O : Option Addr) (n co d m : Nat) (F : Nat → Value) (w1 W : World) (Q : Nat → Prop) (ob gn cn gs cs : Nat) (v9 : Value) (o : OpV) (A : Ab) (wt : List OpV) (h : HypC w1 Q F W d m ob gn cn gs cs v9 o A wt) (hk : o.k = 3) :
    Code.wp Try.prog pC (Exit.then (IC room A.room O n co d m F w1 o A wt) Qx) ⟨frm room A.room O n co d F, []⟩ W := by
  have x0 := h.hC.cell 0
  simp [opCells] at x0
  rw [hk] at x0
  have kM := Lib.hid (Sync_many h.many (i := 0) (by omega) (by have := h.hm; omega))
  have ha : A1 A o = (syA A).1 ∧ want2 A o = (syA A).2 := by unfold A1 want2; simp [hk]
  have HA := Lib.hid ha
  have HH := Lib.hid h
  have HK := Lib.hid hk
  have e14 := h.e14
  have e18 := h.e18
  have E14 := Lib.hid e14
  unfold frm
  rw [e14, e18]
  clear e14 e18 hk h ha
  conv => arg 2; whnf
  go_wp2_with fail
  refine kM.out.mono ?_
  rintro e w5 ⟨rfl, h5, q5⟩
  have h5' := h5.one
  rw [← HA.out.1] at h5'
  rw [← HA.out.2]
  clear h5
  go_wp2
  exact IC_done HH.out (by rw [HK.out]; decide) (by rw [HK.out]; decide) h5' q5 ⟨rfl, rfl, rfl, rfl, rfl⟩ rfl rfl rfl rfl rfl rfl rfl rfl rfl

set_option maxRecDepth 100000 in
set_option maxHeartbeats 2000000 in
theorem sgC_no (Qx : Exit → Act → World → Prop) (room : Int) (O : Option Addr) (n co d m : Nat) (F : Nat → Value) (w1 W : World) (Q : Nat → Prop) (ob gn cn gs cs : Nat) (v9 : Value) (o : OpV) (A : Ab) (wt : List OpV) (h : HypC w1 Q F W d m ob gn cn gs cs v9 o A wt) (hk : o.k < 0 ∨ 6 < o.k) :
    Code.wp Try.prog pC (Exit.then (IC room A.room O n co d m F w1 o A wt) Qx) ⟨frm room A.room O n co d F, []⟩ W := by
  have x0 := h.hC.cell 0
  simp [opCells] at x0
  have ha : A1 A o = A ∧ want2 A o = 0 := by
    have hw : want1 A o = 0 := by unfold want1; rw [if_pos (by omega)]
    have := stays (A := A) (o := o) (by omega)
    exact ⟨this.1, this.2.trans hw⟩
  have b0 : (o.k == 0) = false := by simp; omega
  have b1 : (o.k == 1) = false := by simp; omega
  have b2 : (o.k == 2) = false := by simp; omega
  have b3 : (o.k == 3) = false := by simp; omega
  have b4 : (o.k == 4) = false := by simp; omega
  have b5 : (o.k == 5) = false := by simp; omega
  have b6 : (o.k == 6) = false := by simp; omega
  have HA := Lib.hid ha
  have HH := Lib.hid h
  have HK := Lib.hid hk
  have e14 := h.e14
  have e18 := h.e18
  have hM : Mny w1 W Q 1 (fun _ => d) (m + 1) (fun _ => A1 A o) := by rw [ha.1]; exact h.many.le (Nat.le_succ _)
  unfold frm
  rw [e14, e18]
  clear e14 e18 hk h ha
  conv => arg 2; whnf
  go_wp2
  exact IC_done HH.out (by have := HK.out; omega) (by have := HK.out; omega) hM (fun _ _ => rfl) ⟨rfl, rfl, rfl, rfl, rfl⟩ rfl rfl rfl rfl rfl rfl rfl rfl (by rw [HA.out.2]; rfl)

set_option maxRecDepth 100000 in
set_option maxHeartbeats 2000000 in
theorem sgC_5 (Qx : Exit → Act → World → Prop) (room : Int) (O : Option Addr) (n co d m : Nat) (F : Nat → Value) (w1 W : World) (Q : Nat → Prop) (ob gn cn gs cs : Nat) (v9 : Value) (o : OpV) (A : Ab) (wt : List OpV) (h : HypC w1 Q F W d m ob gn cn gs cs v9 o A wt) (hk : o.k = 5) :
    Code.wp Try.prog pC (Exit.then (IC room A.room O n co d m F w1 o A wt) Qx) ⟨frm room A.room O n co d F, []⟩ W := by
  have x0 := h.hC.cell 0
  have x4 := h.hC.cell 4
  simp [opCells] at x0 x4
  rw [hk] at x0
  have hw : want1 A o = 0 := by unfold want1; rw [if_pos (by omega)]
  have ha := stays (A := A) (o := o) (by omega)
  rw [hw] at ha
  have e2 : A2 A o = fuA A o.n := by unfold A2; rw [if_pos hk]
  have ew : wait2 A o wt = wait1 A o wt := by unfold wait2; rw [if_neg (by omega)]
  have QO := Lib.hid h.qo
  have kF := Lib.hid (Fuse_many h.many (i := 0) (by omega) o.n h.hok.n.2)
  have fin : ∀ (w5 : World) (fv : Int) (t : Array Value), fv = (fuA A o.n).fuse → Mny w1 w5 Q 1 (fun _ => d) m (fun _ => fuA A o.n) → (∀ k, Q k → w5.heap[k]? = W.heap[k]?) → slots room A.room O n co d t → t.getD 7 undef = F 7 → t.getD 8 undef = F 8 → t.getD 9 undef = F 9 → t.getD 10 undef = .int .i64 fv → t.getD 11 undef = F 11 → t.getD 12 undef = F 12 → t.getD 13 undef = F 13 → t.getD 15 undef = F 15 → t.getD 18 undef = .int .i64 0 → IC room A.room O n co d m F w1 o A wt ⟨t, []⟩ w5 := by
    intro w5 fv t hfv h5 q5 hs t7 t8 t9 t10 t11 t12 t13 t15 t18
    have f1 : (fuA A o.n).now = A.now ∧ (fuA A o.n).safe = A.safe ∧ (fuA A o.n).pend = A.pend ∧ (fuA A o.n).off = A.off ∧ (fuA A o.n).steps = A.steps := by unfold fuA; split <;> simp
    obtain ⟨g1, g2, g3, g4, g5⟩ := f1
    have law := h.law.blk q5
    rw [ha.1] at law
    refine IC_mk Q gn cn gs cs v9 hs ?_ ?_ (t9.trans h.e9) ?_ ?_ ?_ t13 (t15.trans h.e15) ?_ ?_ ?_
    · rw [t7, h.e7, e2, g1, ha.1]
    · rw [t8, h.e8, e2, g2, ha.1]
    · rw [t10, e2, hfv]
    · rw [t11, h.e11, e2, g4, ha.1]
    · rw [t12, h.e12, e2, g5, ha.1]
    · rw [t18, ha.2]
    · rw [e2, ew]
      exact ⟨by rw [g1]; exact law.now, law.qn, by rw [g2]; exact law.safe, law.qs, law.wait, law.qw, by rw [g3]; exact law.pend, law.wok⟩
    · rw [e2]; exact h5.le (Nat.le_succ _)
  have FIN := Lib.hid fin
  have e10 := h.e10
  have e11 := h.e11
  have e14 := h.e14
  have e18 := h.e18
  rw [ha.1] at e10 e11
  have E11 := Lib.hid e11
  have E10 := Lib.hid e10
  cases ho : A.off
  · have hfu : (fuA A o.n).fuse = max o.n 0 := by unfold fuA; rw [if_neg (by rw [ho]; decide)]
    have HF := Lib.hid hfu
    rw [ho] at e11
    have E11' := Lib.hid e11
    unfold frm
    rw [e14, e18, e11]
    clear e14 e18 e11 e10 hk h ha hw e2 ew fin hfu
    conv => arg 2; whnf
    go_wp2_with fail
    refine kF.out.mono ?_
    rintro e w5 ⟨rfl, h5, q5⟩
    have h5' := h5.one
    have z4 : w5.cell? ⟨ob, 4, none⟩ = some (.int .i64 o.n) := (World.cell?_of_block (q5 ob QO.out)).trans x4
    clear h5
    go_wp2
    exact FIN.out w5 _ _ HF.out.symm h5' q5 ⟨rfl, rfl, rfl, rfl, rfl⟩ rfl rfl rfl rfl E11'.out.symm rfl rfl rfl rfl
  · have hfu : (fuA A o.n).fuse = A.fuse := by unfold fuA; rw [if_pos ho]
    have HF := Lib.hid hfu
    rw [ho] at e11
    have E11' := Lib.hid e11
    unfold frm
    rw [e14, e18, e11]
    clear e14 e18 e11 e10 hk h ha hw e2 ew fin hfu
    conv => arg 2; whnf
    go_wp2_with fail
    refine kF.out.mono ?_
    rintro e w5 ⟨rfl, h5, q5⟩
    have h5' := h5.one
    clear h5
    go_wp2
    exact FIN.out w5 _ _ HF.out.symm h5' q5 ⟨rfl, rfl, rfl, rfl, rfl⟩ rfl rfl rfl E10.out E11'.out.symm rfl rfl rfl rfl

end Go.Proofs.Ytbdmlenapccdnaa
