/- The law TextSigns, walked. -/
import Derived.Test.YtdoglpaggmdnpaaTh
import Derived.Test.YtdoglpaggmdnpaaTa
namespace Go.Proofs.Ytdoglpaggmdnpaa
open Go.RowKit Go.Shelf
attribute [local go_sem] Oper.semAt_some

theorem own_slice {w : World} {base : Nat} {e : TypeId} {v : Value} {n : Nat} {xs : List Value} (h : w.ownsRow base e 1 v n xs) : ∃ A cap, v = .slice A n cap ∧ n ≤ cap := by
  rcases h.2 with ⟨rfl, hn⟩ | ⟨g, cap, cur, rfl, _, _, hnc, _⟩
  · subst hn; exact ⟨none, 0, rfl, by omega⟩
  · exact ⟨_, cap, rfl, hnc⟩

theorem _root_.Go.World.ownsRow.weak0 {w : World} {base : Nat} {e : TypeId} {size : Nat} {v : Value} {n : Nat} {xs : List Value} (h : w.ownsRow base e size v n xs) : w.ownsRow 0 e size v n xs :=
  ⟨h.1, by
    rcases h.2 with h' | ⟨g, cap', cur, h', _, rest⟩
    · exact .inl h'
    · exact .inr ⟨g, cap', cur, h', Nat.zero_le _, rest⟩⟩

/-- the law's boxes: what was asked for, the answer, the reference's two lists, the count -/
structure Boxes (W : World) (Q R : Nat) (st : Int) (v1 v2 : Value) (n : Int) : Prop where
  stop : Boxed W Q 3 (.int .i64 st)
  res : Boxed W (Q + 1) 4 (.bool false)
  rs : Boxed W R 24 v1
  at_ : Boxed W (R + 1) 25 v2
  n : Boxed W (R + 1 + 1) 3 (.int .i64 n)
theorem Boxes.kept {W W' : World} {Q R : Nat} {st : Int} {v1 v2 : Value} {n : Int} {row : Option Nat} (h : Boxes W Q R st v1 v2 n) (hg : W.grownBy W' row) (hr : ∀ r, row = some r → ∃ o : Obj, W.heap[r]? = some o ∧ o.isCells = false) : Boxes W' Q R st v1 v2 n := by
  have key : ∀ {B : Nat} {t : TypeId} {v : Value}, Boxed W B t v → Boxed W' B t v := fun {B t v} hB => hB.kept hg (fun e => by
    obtain ⟨o, ho, hc⟩ := hr B e.symm
    have : W.heap[B]? = _ := hB
    rw [ho] at this
    cases this
    cases hc)
  exact ⟨key h.stop, key h.res, key h.rs, key h.at_, key h.n⟩

/-- between two rounds: the boxes; the reference's lists lie there; nothing old has turned -/
def LawI (b : List Int) (A1 : Option Addr) (c1 : Nat) (A2 : Option Addr) (c2 : Nat) (w : World) (Q R : Nat) (st : Int) (n : Nat) (W : World) : Prop :=
  Boxes W Q R st (.slice A1 (Tx.signs b).length c1) (.slice A2 (Tx.signs b).length c2) n ∧ W.ownsRow 0 21 1 (.slice A1 (Tx.signs b).length c1) (Tx.signs b).length ((Tx.signs b).map fun x => Value.int .i32 x.2) ∧
  W.ownsRow 0 3 1 (.slice A2 (Tx.signs b).length c2) (Tx.signs b).length ((Tx.signs b).map fun x => Value.int .i64 (x.1 : Int)) ∧ Below w.heap.size w W
theorem row_noncell {W : World} {base : Nat} {e : TypeId} {v : Value} {n : Nat} {xs : List Value} {row : Option Nat} (h : W.ownsRow base e 1 v n xs) (hr : ∀ r, row = some r → ∃ o : Obj, W.heap[r]? = some o ∧ o.isCells = false) : v.ownBlock = none ∨ v.ownBlock ≠ row := by
  rcases h.2 with ⟨rfl, _⟩ | ⟨g, cap', cur, rfl, _, hg, _⟩
  · left; rfl
  · right
    intro e
    obtain ⟨o, ho, hc⟩ := hr g e.symm
    rw [hg] at ho
    cases ho
    cases hc
theorem lawI_own {β : Type} {b : List Int} {A1 : Option Addr} {c1 : Nat} {A2 : Option Addr} {c2 : Nat} {w : World} {Q R : Nat} {st : Int} {B : Nat} (f : β → Nat) (hB : w.heap.size ≤ B) : OwnFrom B (fun s W => LawI b A1 c1 A2 c2 w Q R st (f s) W) := by
  rintro s X Y row ⟨h1, h2, h3, h4⟩ hg hr
  refine ⟨h1.kept hg (fun r e => (hr r e).2), h2.kept hg (row_noncell h2 (fun r e => (hr r e).2)), h3.kept hg (row_noncell h3 (fun r e => (hr r e).2)), ?_⟩
  exact h4.grown hg h4.size (fun k e => Nat.le_trans hB (hr k e).1)

theorem row_at {W : World} {e : TypeId} {A : Option Addr} {n c : Nat} {xs : List Value} {k : Nat} (h : W.ownsRow 0 e 1 (.slice A n c) n xs) (hk : k < n) : ∃ g, A = some ⟨g, 0, none⟩ ∧ W.cell? ⟨g, k, none⟩ = xs[k]? := by
  rcases h.2 with ⟨_, hn⟩ | ⟨g, cap', cur, h', _⟩
  · omega
  · injection h' with h1 h2 h3
    subst h1 h3
    exact ⟨g, rfl, h.cellAt k (by omega)⟩
theorem lawI_at {b : List Int} {A1 : Option Addr} {c1 : Nat} {A2 : Option Addr} {c2 : Nat} {w : World} {Q R : Nat} {st : Int} {m k : Nat} {W : World} (h : LawI b A1 c1 A2 c2 w Q R st m W) (hk : k < (Tx.signs b).length) :
    ∃ g1 g2, A1 = some ⟨g1, 0, none⟩ ∧ A2 = some ⟨g2, 0, none⟩ ∧ ∃ p r, (Tx.signs b)[k]? = some (p, r) ∧ W.cell? ⟨g1, k, none⟩ = some (.int .i32 r) ∧ W.cell? ⟨g2, k, none⟩ = some (.int .i64 (p : Int)) := by
  obtain ⟨g1, h1, e1⟩ := row_at h.2.1 hk
  obtain ⟨g2, h2, e2⟩ := row_at h.2.2.1 hk
  refine ⟨g1, g2, h1, h2, (Tx.signs b)[k].1, (Tx.signs b)[k].2, by rw [List.getElem?_eq_getElem hk], ?_, ?_⟩
  · rw [e1, List.getElem?_map, List.getElem?_eq_getElem hk]; rfl
  · rw [e2, List.getElem?_map, List.getElem?_eq_getElem hk]; rfl
theorem lawI_n {b : List Int} {A1 : Option Addr} {c1 : Nat} {A2 : Option Addr} {c2 : Nat} {w : World} {Q R : Nat} {st : Int} {m : Nat} {W : World} (h : LawI b A1 c1 A2 c2 w Q R st m W) (hQ : w.heap.size ≤ Q) (hR : Q + 1 < R)
    (hA2 : ∀ k, (Value.slice A2 (Tx.signs b).length c2).ownBlock = some k → k < R) (m' : Nat) : LawI b A1 c1 A2 c2 w Q R st m' (W.setCell ⟨R + 1 + 1, 0, none⟩ (.int .i64 m')) := by
  obtain ⟨bx, h1, h2, hB⟩ := h
  have hg := grown_setCell W (R + 1 + 1) (.int .i64 m')
  refine ⟨⟨bx.stop.kept hg (by simp; omega), bx.res.kept hg (by simp; omega), bx.rs.kept hg (by simp; omega), bx.at_.kept hg (by simp), bx.n.set _⟩, h1.kept hg (.inr fun e => bx.n.not_row (by decide) h1 e.symm), h2.kept hg ?_, hB.setCell (p := ⟨R + 1 + 1, 0, none⟩) (by simp; omega) _⟩
  right
  intro e
  have := hA2 _ e
  omega
theorem lawI_stop {b : List Int} {A1 : Option Addr} {c1 : Nat} {A2 : Option Addr} {c2 : Nat} {w : World} {Q R : Nat} {st : Int} {m : Nat} {W : World} (h : LawI b A1 c1 A2 c2 w Q R st m W) (hQ : w.heap.size ≤ Q) (hR : Q + 1 < R)
    (hA2 : ∀ k, (Value.slice A2 (Tx.signs b).length c2).ownBlock = some k → k ≠ Q) (st' : Int) : LawI b A1 c1 A2 c2 w Q R st' m (W.setCell ⟨Q, 0, none⟩ (.int .i64 st')) := by
  obtain ⟨bx, h1, h2, hB⟩ := h
  have hg := grown_setCell W Q (.int .i64 st')
  refine ⟨⟨bx.stop.set _, bx.res.kept hg (by simp), bx.rs.kept hg (by simp; omega), bx.at_.kept hg (by simp; omega), bx.n.kept hg (by simp; omega)⟩, h1.kept hg (.inr fun e => bx.stop.not_row (by decide) h1 e.symm), h2.kept hg ?_, hB.setCell (p := ⟨Q, 0, none⟩) hQ _⟩
  right
  intro e
  exact hA2 _ e rfl
theorem pre_next {α : Type} {pre xs : List α} {x y : α} (h : pre <+: xs) (hy : xs[pre.length]? = some y) : (pre ++ [x] <+: xs) ↔ x = y := by
  obtain ⟨t, rfl⟩ := h
  rw [List.getElem?_append_right (Nat.le_refl _), Nat.sub_self] at hy
  cases t with
  | nil => simp at hy
  | cons z t =>
    simp at hy
    subst hy
    constructor
    · rintro ⟨u, hu⟩
      rw [List.append_assoc, List.append_cancel_left_eq] at hu
      simp at hu
      exact hu.1
    · rintro rfl
      exact ⟨t, by simp⟩
theorem pre_long {α : Type} {pre xs : List α} {x : α} (h : ¬ pre.length < xs.length) : ¬ pre ++ [x] <+: xs := by
  intro hp
  have := hp.length_le
  simp at this
  omega

theorem lawI_below {b : List Int} {A1 : Option Addr} {c1 : Nat} {A2 : Option Addr} {c2 : Nat} {w : World} {Q R : Nat} {st : Int} {m : Nat} {W W' : World} (h : LawI b A1 c1 A2 c2 w Q R st m W) (hb : Below W.heap.size W W') : LawI b A1 c1 A2 c2 w Q R st m W' := by
  obtain ⟨bx, h1, h2, hB⟩ := h
  have hg : W.grownBy W' none := ⟨hb.os, hb.tape, hb.output, hb.size, fun k hk _ => hb.block k hk⟩
  exact ⟨bx.kept hg (fun r e => by cases e), h1.kept hg (row_noncell h1 (fun r e => by cases e)), h2.kept hg (row_noncell h2 (fun r e => by cases e)), hB.trans (hb.mono hB.size)⟩
theorem heapD_own {β : Type} {B D : Nat} {o : Obj} (h : D < B) : OwnFrom (β := β) B (fun _ W => W.heap[D]? = some o) := by
  intro s X Y row hX hg hr
  rw [hg.block D (Array.getElem?_eq_some_iff.1 hX).1 (fun e => by have := (hr D e.symm).1; omega)]
  exact hX
theorem box_ne {W : World} {B D : Nat} {t : TypeId} {v : Value} {o : Obj} (h : Boxed W B t v) (hD : W.heap[D]? = some o) (ho : o.isCells = false) : some B ≠ some D := by
  intro e
  obtain rfl : B = D := by injection e
  have h' : W.heap[B]? = _ := h
  rw [hD] at h'
  cases h'
  cases ho
theorem and15 (x : Int) : 0 ≤ bits .and .i64 x 15 ∧ bits .and .i64 x 15 ≤ 15 := by
  have h : (BitVec.ofInt 64 x &&& BitVec.ofInt 64 15).toNat ≤ 15 := by
    rw [BitVec.toNat_and]
    exact Nat.le_trans Nat.and_le_right (by decide)
  show 0 ≤ IntKind.i64.wrap ((BitVec.ofInt 64 x &&& BitVec.ofInt 64 15).toNat : Int) ∧ _
  have h2 : bits .and .i64 x 15 = IntKind.i64.wrap ((BitVec.ofInt 64 x &&& BitVec.ofInt 64 15).toNat : Int) := rfl
  rw [h2, IntKind.wrap_i64]
  omega

set_option maxRecDepth 100000 in
set_option maxHeartbeats 2000000 in
theorem signs_short (b : List Int) (A : Option Addr) (cap : Nat) (stop : Int) (w : World) (hr : Rd w .u8 A b) (hA : A = none → cap = 0) (hcap : b.length ≤ cap) (hl : b.length ≤ 1000) (hbd : ∀ i : Nat, 0 ≤ b[i]?.getD 0 ∧ b[i]?.getD 0 ≤ 255) :
    Calls Try.prog 3 #[.slice A b.length cap, .int .i64 stop] w fun e w' => e = .returned (.bool true) ∧ Below w.heap.size w w' := by
  refine (callsIn_wide (n := 9)).1 ?_
  refine callsIn_of_wp_marks Try.func3 rfl trivial ?_ rfl
  simp only [Try.ntmps3, List.size_toArray, List.length_cons, List.length_nil, Nat.reduceAdd, Nat.reduceSub, Array.replicate_succ, Array.replicate_zero, List.push_toArray, List.append_toArray, List.nil_append, List.cons_append]
  have hd0 : decide ((1000 : Int) < (b.length : Int)) = false := by simp; omega
  gi_wp2_with (refine ⟨trivial, ?_⟩; gi_at_call 10; refine (callsIn_wide.2 (head1_any _)).mono ?_; rintro e w1 ⟨rfl, hb1⟩)
  have hB1 : Below w.heap.size w w1 := (((Below.refl _ _).alloc (Nat.le_refl _) _).alloc (by simp) _).trans (hb1.mono (by simp; omega))
  have q0 := ((Boxed.new w 3 (.int .i64 stop)).alloc (.cells #[.bool false] 4)).kept (row := none) ⟨hb1.os, hb1.tape, hb1.output, hb1.size, fun k hk _ => hb1.block k hk⟩ (by simp)
  have q1 := (Boxed.new (w.alloc (.cells #[.int .i64 stop] 3)) 4 (.bool false)).kept (row := none) ⟨hb1.os, hb1.tape, hb1.output, hb1.size, fun k hk _ => hb1.block k hk⟩ (by simp)
  rw [World.size_alloc] at q1
  have HA := Lib.hid (all_any b A cap w1 (hr.below hB1) hcap (by omega) hbd)
  clear hb1
  gi_wp2_with (refine ⟨trivial, ?_⟩; gi_at_call 11; refine (callsIn_wide.2 HA.out).mono ?_; rintro e w2 ⟨v1, v2, rfl, hrow1, hrow2, hb2⟩; obtain ⟨A1, c1, rfl, hl1⟩ := own_slice hrow1; obtain ⟨A2, c2, rfl, hl2⟩ := own_slice hrow2)
  have hB3 : Below w.heap.size w (((w2.alloc (.cells #[.slice A1 (Tx.signs b).length c1] 24)).alloc (.cells #[.slice A2 (Tx.signs b).length c2] 25)).alloc (.cells #[.int .i64 0] 3)) := by
    have h2 : Below w.heap.size w w2 := hB1.trans (hb2.mono hB1.size)
    exact ((h2.alloc h2.size _).alloc (by have := h2.size; simp; omega) _).alloc (by have := h2.size; simp; omega) _
  have HS := Lib.hid (signs_any b A cap _ (hr.below hB3) hA (by omega))
  gi_wp2_with (refine ⟨trivial, ?_⟩; gi_at_call 12; refine (callsIn_wide.2 HS.out).mono ?_; rintro e w3 ⟨B1, A3, c3, rfl, hB1', hsrc, hb3⟩)
  have k3 : ∀ {B : Nat} {t : TypeId} {v : Value}, Boxed (((w2.alloc (.cells #[.slice A1 (Tx.signs b).length c1] 24)).alloc (.cells #[.slice A2 (Tx.signs b).length c2] 25)).alloc (.cells #[.int .i64 0] 3)) B t v → Boxed w3 B t v :=
    fun h => h.kept (row := none) ⟨hb3.os, hb3.tape, hb3.output, hb3.size, fun k hk _ => hb3.block k hk⟩ (by simp)
  have k2 : ∀ {B : Nat} {t : TypeId} {v : Value}, Boxed w1 B t v → Boxed w3 B t v := fun h => k3 ((((h.kept (row := none) ⟨hb2.os, hb2.tape, hb2.output, hb2.size, fun k hk _ => hb2.block k hk⟩ (by simp)).alloc _).alloc _).alloc _)
  have r0 := k3 (((Boxed.new w2 24 (.slice A1 (Tx.signs b).length c1)).alloc (.cells #[.slice A2 (Tx.signs b).length c2] 25)).alloc (.cells #[.int .i64 0] 3))
  have r1 := k3 ((Boxed.new (w2.alloc (.cells #[.slice A1 (Tx.signs b).length c1] 24)) 25 (.slice A2 (Tx.signs b).length c2)).alloc (.cells #[.int .i64 0] 3))
  have r2 := k3 (Boxed.new ((w2.alloc (.cells #[.slice A1 (Tx.signs b).length c1] 24)).alloc (.cells #[.slice A2 (Tx.signs b).length c2] 25)) 3 (.int .i64 0))
  simp only [World.size_alloc] at r1 r2
  have hrow1' := (((hrow1.alloc (.cells #[.slice A1 (Tx.signs b).length c1] 24)).alloc (.cells #[.slice A2 (Tx.signs b).length c2] 25)).alloc (.cells #[.int .i64 0] 3)).kept (row := none) ⟨hb3.os, hb3.tape, hb3.output, hb3.size, fun k hk _ => hb3.block k hk⟩ (by cases A1 <;> simp [Value.ownBlock])
  have hrow2' := (((hrow2.alloc (.cells #[.slice A1 (Tx.signs b).length c1] 24)).alloc (.cells #[.slice A2 (Tx.signs b).length c2] 25)).alloc (.cells #[.int .i64 0] 3)).kept (row := none) ⟨hb3.os, hb3.tape, hb3.output, hb3.size, fun k hk _ => hb3.block k hk⟩ (by cases A2 <;> simp [Value.ownBlock])
  have hBw : Below w.heap.size w w3 := hB3.trans (hb3.mono hB3.size)
  have hI0 : LawI b A1 c1 A2 c2 w w.heap.size w2.heap.size stop 0 w3 := ⟨⟨k2 q0, k2 q1, r0, r1, r2⟩, hrow1'.weak0, hrow2'.weak0, hBw⟩
  have hRz : w.heap.size + 1 < w2.heap.size := by have := hb2.size; have := q1.lt; omega
  have hA2 : ∀ k, (Value.slice A2 (Tx.signs b).length c2).ownBlock = some k → w1.heap.size ≤ k ∧ k < w2.heap.size := fun k e => hrow2.lt k e
  have hQw1 : w.heap.size < w1.heap.size := q0.lt
  replace hA2 : ∀ k, (Value.slice A2 (Tx.signs b).length c2).ownBlock = some k → w.heap.size < k ∧ k < w2.heap.size := fun k e => ⟨Nat.lt_of_lt_of_le hQw1 (hA2 k e).1, (hA2 k e).2⟩
  clear hQw1
  replace hsrc := hsrc.weak
  clear k2 k3 r0 r1 r2 hrow1 hrow2 hrow1' hrow2' q0 q1 HS HA hB1 hB1' hb2 hb3 hB3
  obtain ⟨R, hR⟩ : ∃ R, w2.heap.size = R := ⟨_, rfl⟩
  obtain ⟨Q, hQ⟩ : ∃ Q, w.heap.size = Q := ⟨_, rfl⟩
  obtain ⟨L, hL⟩ : ∃ L, (Tx.signs b).length = L := ⟨_, rfl⟩
  rw [hR, hQ] at hI0
  rw [hR, hQ] at hRz
  rw [hR, hQ] at hA2
  have hA2' : ∀ k, (Value.slice A2 (Tx.signs b).length c2).ownBlock = some k → k ≠ Q := fun k e => by have := (hA2 k e).1; omega
  replace hA2 : ∀ k, (Value.slice A2 (Tx.signs b).length c2).ownBlock = some k → k < R := fun k e => (hA2 k e).2
  rw [hR, hQ, hL]
  have HL := Lib.hid hL
  have HQ := Lib.hid hQ
  clear hR w2 w1 hL hQ
  refine wpIn_rangeFunc_ownF (F := Fence.wide) (n := 9) rfl (by omega) (gf := 28) (lb := #[.pointer (some ⟨B1, 0, none⟩)]) rfl trivial (enters_of Try.func28 (by kernel_rfl) rfl)
    (signs1_stops 8 (by omega) b 0 B1 A3 c3 (by omega) hbd w3 hsrc) src_kt (fun W l o o' _ h1 h2 _ => src_kb W l o o' h1 h2) (Below.refl _ _) (fun _ => rfl)
    (fun pre W => pre <+: Tx.signs b ∧ LawI b A1 c1 A2 c2 w Q R stop pre.length W)
    (fun _ pre _ => ¬ pre <+: Tx.signs b)
    (OwnFrom.and (fun s X Y row h _ _ => h) (lawI_own (fun pre : List (Nat × Int) => pre.length) hBw.size))
    (fun _ _ _ _ _ hs _ _ => hs)
    ⟨by simp, hI0⟩
    (fun x => { tmps := #[.slice A b.length cap, .int .i64 stop, undef, .pointer (some ⟨Q, 0, none⟩), .pointer (some ⟨Q + 1, 0, none⟩), .pointer (some ⟨R, 0, none⟩), .pointer (some ⟨R + 1, 0, none⟩), .pointer (some ⟨R + 1 + 1, 0, none⟩), .int .i64 x.1, .int .i32 x.2, .bool true, .bool false, .slice A b.length cap, .int .i64 b.length, .bool false, .tuple #[.slice A1 L c1, .slice A2 L c2], .slice A b.length cap, .tuple #[.slice A1 L c1, .slice A2 L c2], .slice A1 L c1, .slice A2 L c2, .slice A b.length cap, .func (.func 28) #[] #[.pointer (some ⟨B1, 0, none⟩)], .int .i64 x.1, .int .i32 x.2, undef, undef, undef, undef, undef, undef, undef, undef, undef, undef, undef, undef, undef, undef, undef, undef, undef, undef, undef, undef, undef, undef, undef, undef, undef, undef, undef, undef, undef, undef, undef, undef, undef, undef, undef, undef, undef, undef, undef, undef, undef, undef, undef, undef], defers := [] }) ?assign ?body ?done ?stop
  case assign =>
    intro l x W K hK
    gi_wp2
    exact hK
  case body =>
    rintro l pre ⟨p, r⟩ W ⟨hpre, hI⟩ hlt
    have hI0 := hI
    obtain ⟨bx, hw1, hw2, hB⟩ := hI
    have cn := bx.n.cell
    have fn := bx.n.frozen
    have cr := bx.rs.cell
    have ca := bx.at_.cell
    have cq := bx.res.cell
    have fq := bx.res.frozen
    rw [HL.out] at cr ca
    have hll := Tx.rest_len b b.length 0 (by omega)
    have hLb : L ≤ 1000 := by rw [← HL.out]; unfold Tx.signs; omega
    clear hbd hll
    by_cases hn : pre.length < L
    · obtain ⟨g1, g2, rfl, rfl, p', r', hget, e1, e2⟩ := lawI_at hI0 (by rw [HL.out]; exact hn)
      have hp' := hpre.length_le
      cases t1 : ((p : Int) != (p' : Int)) with
      | true =>
        gi_wp2
        exact ⟨KeepsOthers.setCell _ _ _, fun h => by have := (pre_next hpre hget).1 h; simp at this; simp [this.1] at t1⟩
      | false =>
        cases t2 : (r != r') with
        | true =>
          gi_wp2
          exact ⟨KeepsOthers.setCell _ _ _, fun h => by have := (pre_next hpre hget).1 h; simp at this; simp [this.2] at t2⟩
        | false =>
          gi_wp2
          have hnew := lawI_n hI0 (Nat.le_of_eq HQ.out) hRz hA2 (pre.length + 1)
          have hpr : pre ++ [(p, r)] <+: Tx.signs b := (pre_next hpre hget).2 (by simp at t1 t2; rw [t2]; simp; omega)
          refine ⟨KeepsOthers.setCell _ _ _, fun hs => hs.set bx.n (by decide) (by decide) _, hpr, ?_⟩
          rw [List.length_append]
          exact hnew
    · gi_wp2
      exact ⟨KeepsOthers.setCell _ _ _, pre_long (by rw [HL.out]; exact hn)⟩
  case done =>
    rintro D ys W hD rfl ⟨hpre, hI⟩ hK
    have hDw := hD
    rw [HL.out] at hI
    have hI0 := hI
    obtain ⟨bx, hw1, hw2, hB⟩ := hI
    have cn := bx.n.cell
    have fn := bx.n.frozen
    have cr := bx.rs.cell
    have cs := bx.stop.cell
    have fs := bx.stop.frozen
    rw [HL.out] at cr
    have tt : ((L : Int) != (L : Int)) = false := by simp
    gi_wp2_with fail
    have hst := and15 stop
    obtain ⟨st, hst'⟩ : ∃ st, bits .and .i64 stop 15 = st := ⟨_, rfl⟩
    rw [hst'] at hst ⊢
    have hJ : LawI b A1 c1 A2 c2 w Q R st 0 ((W.setCell ⟨Q, 0, none⟩ (.int .i64 st)).setCell ⟨R + 1 + 1, 0, none⟩ (.int .i64 0)) := lawI_n (lawI_stop hI0 (Nat.le_of_eq HQ.out) hRz hA2' st) (Nat.le_of_eq HQ.out) hRz hA2 0
    have hJd : ((W.setCell ⟨Q, 0, none⟩ (.int .i64 st)).setCell ⟨R + 1 + 1, 0, none⟩ (.int .i64 0)).heap[D]? = some (.deferred (some [])) :=
      (KeepsOthers.setCell _ _ _).same D _ ((KeepsOthers.setCell W _ _).same D _ hK rfl) rfl
    have HS := Lib.hid (signs_any b A cap _ (hr.below hJ.2.2.2) hA (by omega))
    obtain ⟨W1, hW1⟩ : ∃ W1, ((W.setCell ⟨Q, 0, none⟩ (.int .i64 st)).setCell ⟨R + 1 + 1, 0, none⟩ (.int .i64 0)) = W1 := ⟨_, rfl⟩
    have hJ' : LawI b A1 c1 A2 c2 w Q R st 0 W1 := by rw [← hW1]; exact hJ
    rw [hW1] at hJd HS ⊢
    clear hJ hW1 hst' cn fn cr cs fs bx hw1 hw2 hB hI0 hK hD
    gi_wp2_with (refine ⟨trivial, ?_⟩; gi_at_call 12; refine (callsIn_wide.2 HS.out).mono ?_; rintro e w4 ⟨B2, A4, c4, rfl, hB4, hsrc2, hb4⟩)
    have hJ4 : LawI b A1 c1 A2 c2 w Q R st 0 w4 := lawI_below hJ' hb4
    have hD4 : w4.heap[D]? = some (.deferred (some [])) := (hb4.block D (Array.getElem?_eq_some_iff.1 hJd).1).trans hJd
    have hDlt : D < w4.heap.size := (Array.getElem?_eq_some_iff.1 hD4).1
    replace hsrc2 := hsrc2.weak
    clear hB4 hJ' hb4 hJd HS
    refine wpIn_rangeFunc_ownF (F := Fence.wide) (n := 9) rfl (by omega) (gf := 28) (lb := #[.pointer (some ⟨B2, 0, none⟩)]) rfl trivial (enters_of Try.func28 (by kernel_rfl) rfl)
      (signs1_stops 8 (by omega) b 0 B2 A4 c4 (by omega) hbd w4 hsrc2) src_kt (fun W l o o' _ h1 h2 _ => src_kb W l o o' h1 h2) (Below.refl _ _) (fun _ => rfl)
      (fun pre W => (LawI b A1 c1 A2 c2 w Q R st pre.length W ∧ (pre.length : Int) ≤ st) ∧ W.heap[D]? = some (.deferred (some [])))
      (fun c pre W => ((c = .exit 2 ∧ (pre.length : Int) = st + 1) ∧ LawI b A1 c1 A2 c2 w Q R st pre.length W) ∧ W.heap[D]? = some (.deferred (some [])))
      (OwnFrom.and (OwnFrom.and (lawI_own (fun pre : List (Nat × Int) => pre.length) hJ4.2.2.2.size) (fun _ _ _ _ h _ _ => h)) (heapD_own hDlt))
      (fun c => OwnFrom.and (OwnFrom.and (fun _ _ _ _ h _ _ => h) (lawI_own (fun pre : List (Nat × Int) => pre.length) hJ4.2.2.2.size)) (heapD_own hDlt))
      ⟨⟨hJ4, by simp; omega⟩, hD4⟩
      (fun x => { tmps := #[.slice A b.length cap, .int .i64 stop, undef, .pointer (some ⟨Q, 0, none⟩), .pointer (some ⟨Q + 1, 0, none⟩), .pointer (some ⟨R, 0, none⟩), .pointer (some ⟨R + 1, 0, none⟩), .pointer (some ⟨R + 1 + 1, 0, none⟩), undef, undef, .bool true, .bool false, .slice A b.length cap, .int .i64 b.length, .bool false, .tuple #[.slice A1 L c1, .slice A2 L c2], .slice A b.length cap, .tuple #[.slice A1 L c1, .slice A2 L c2], .slice A1 L c1, .slice A2 L c2, .slice A b.length cap, .func (.func 28) #[] #[.pointer (some ⟨B1, 0, none⟩)], undef, undef, undef, undef, undef, undef, undef, undef, undef, undef, undef, undef, undef, undef, undef, undef, undef, undef, undef, undef, undef, undef, undef, undef, .int .i64 L, .slice A1 L c1, .int .i64 L, .bool false, .int .i64 stop, .int .i64 st, .slice A b.length cap, .func (.func 28) #[] #[.pointer (some ⟨B2, 0, none⟩)], .int .i64 x.1, .int .i32 x.2, undef, undef, undef, undef, undef, undef, undef, undef, undef, undef, undef, undef], defers := [] }) ?assign2 ?body2 ?done2 ?stop2
    case assign2 =>
      intro l x W K hK
      gi_wp2
      exact hK
    case body2 =>
      rintro l pre ⟨p, r⟩ W ⟨⟨hI, hle⟩, hD2⟩ hlt
      have hI0 := hI
      obtain ⟨bx, hw1, hw2, hB⟩ := hI
      have cn := bx.n.cell
      have fn := bx.n.frozen
      have cs := bx.stop.cell
      have hnew := lawI_n hI0 (Nat.le_of_eq HQ.out) hRz hA2 (pre.length + 1)
      have HN := Lib.hid hnew
      have hQR : ¬ Q = R + 1 + 1 := by omega
      clear hnew hbd
      by_cases hex : st < (pre.length : Int) + 1
      · gi_wp2
        refine ⟨KeepsOthers.setCell _ _ _, ⟨⟨rfl, by simp; omega⟩, ?_⟩, (KeepsOthers.setCell _ _ _).same D _ hD2 rfl⟩
        rw [List.length_append]
        exact HN.out
      · gi_wp2
        refine ⟨KeepsOthers.setCell _ _ _, fun hs => hs.set bx.n (by decide) (by decide) _, ⟨?_, by simp; omega⟩, (KeepsOthers.setCell _ _ _).same D _ hD2 rfl⟩
        rw [List.length_append]
        exact HN.out
    case done2 =>
      rintro D2 ys W2 hD2 rfl ⟨⟨hI, hle⟩, hDD⟩ hK2
      obtain ⟨bx, hw1, hw2, hB⟩ := hI
      have cn := bx.n.cell
      have cr := bx.rs.cell
      have cs := bx.stop.cell
      have cq := bx.res.cell
      have fq := bx.res.frozen
      rw [HL.out] at cn cr hle
      have hmn : (L : Int) < st + 1 := by omega
      have t3 : ((L : Int) == (L : Int)) = true := by simp
      gi_wp2
      have hk2 := (KeepsOthers.setCell W2 ⟨Q + 1, 0, none⟩ (.bool true)).same D2 _ hK2 rfl
      have hk1 := (KeepsOthers.setCell W2 ⟨Q + 1, 0, none⟩ (.bool true)).same D _ hDD rfl
      have hk1' : ((W2.setCell ⟨Q + 1, 0, none⟩ (.bool true)).putObj D2 (.deferred none)).heap[D]? = some (.deferred (some [])) := by
        rw [World.putObj_heap_other (by omega)]; exact hk1
      have bq := bx.res.set (.bool true)
      have bq2 : Boxed (((W2.setCell ⟨Q + 1, 0, none⟩ (.bool true)).putObj D2 (.deferred none)).putObj D (.deferred none)) (Q + 1) 4 (.bool true) :=
        (bq.kept (grownBy_putObj' _ D2 _) (box_ne bq hk2 rfl)).kept (grownBy_putObj' _ D _) (box_ne (bq.kept (grownBy_putObj' _ D2 _) (box_ne bq hk2 rfl)) hk1' rfl)
      have hcq := bq2.cell
      have hBF := hB.setCell (p := ⟨Q + 1, 0, none⟩) (by have := HQ.out; simp; omega) (.bool true)
      refine ⟨by simp, .inl ⟨_, _, rfl, run_takeDeferred hk2, ?_⟩⟩
      refine ⟨by simp, .inl ⟨_, _, rfl, run_takeDeferred hk1', ?_⟩⟩
      refine ⟨.bool true, ?_, rfl, ?_⟩
      · simp [results, Try.f3, go_sem, hcq]
      · have hwz := hBw.size
        have h5 := belowK_b (w := w) (Nat.le_refl _) (W2.setCell ⟨Q + 1, 0, none⟩ (.bool true)) D2 _ (.deferred none) (by omega) hk2 rfl rfl
        have h6 := belowK_b (w := w) (Nat.le_refl _) ((W2.setCell ⟨Q + 1, 0, none⟩ (.bool true)).putObj D2 (.deferred none)) D _ (.deferred none) (by omega) hk1' rfl rfl
        exact (hBF.trans h5).trans h6
    case stop2 =>
      rintro D2 c pre W2 hD2 hpre ⟨⟨⟨rfl, hlen⟩, hI⟩, hDD⟩ hK2
      obtain ⟨bx, hw1, hw2, hB⟩ := hI
      have cn := bx.n.cell
      have cr := bx.rs.cell
      have cs := bx.stop.cell
      have cq := bx.res.cell
      have fq := bx.res.frozen
      have hpl := hpre.length_le
      rw [HL.out] at cr hpl
      rw [hlen] at cn
      have hmn : ¬ (L : Int) < st + 1 := by omega
      have t3 : (st + 1 == st + 1) = true := by simp
      gi_wp2
      have hk2 := (KeepsOthers.setCell W2 ⟨Q + 1, 0, none⟩ (.bool true)).same D2 _ hK2 rfl
      have hk1 := (KeepsOthers.setCell W2 ⟨Q + 1, 0, none⟩ (.bool true)).same D _ hDD rfl
      have hk1' : ((W2.setCell ⟨Q + 1, 0, none⟩ (.bool true)).putObj D2 (.deferred none)).heap[D]? = some (.deferred (some [])) := by
        rw [World.putObj_heap_other (by omega)]; exact hk1
      have bq := bx.res.set (.bool true)
      have bq2 : Boxed (((W2.setCell ⟨Q + 1, 0, none⟩ (.bool true)).putObj D2 (.deferred none)).putObj D (.deferred none)) (Q + 1) 4 (.bool true) :=
        (bq.kept (grownBy_putObj' _ D2 _) (box_ne bq hk2 rfl)).kept (grownBy_putObj' _ D _) (box_ne (bq.kept (grownBy_putObj' _ D2 _) (box_ne bq hk2 rfl)) hk1' rfl)
      have hcq := bq2.cell
      have hBF := hB.setCell (p := ⟨Q + 1, 0, none⟩) (by have := HQ.out; simp; omega) (.bool true)
      refine ⟨by simp, .inl ⟨_, _, rfl, run_takeDeferred hk2, ?_⟩⟩
      refine ⟨by simp, .inl ⟨_, _, rfl, run_takeDeferred hk1', ?_⟩⟩
      refine ⟨.bool true, ?_, rfl, ?_⟩
      · simp [results, Try.f3, go_sem, hcq]
      · have hwz := hBw.size
        have h5 := belowK_b (w := w) (Nat.le_refl _) (W2.setCell ⟨Q + 1, 0, none⟩ (.bool true)) D2 _ (.deferred none) (by omega) hk2 rfl rfl
        have h6 := belowK_b (w := w) (Nat.le_refl _) ((W2.setCell ⟨Q + 1, 0, none⟩ (.bool true)).putObj D2 (.deferred none)) D _ (.deferred none) (by omega) hk1' rfl rfl
        exact (hBF.trans h5).trans h6
  case stop =>
    rintro D c pre W _ hpre h _
    exact absurd hpre h

set_option maxHeartbeats 400000 in
theorem signs_long (b : List Int) (A : Option Addr) (cap : Nat) (stop : Int) (w : World) (hl : 1000 < b.length) :
    Calls Try.prog 3 #[.slice A b.length cap, .int .i64 stop] w fun e w' => e = .returned (.bool true) ∧ Below w.heap.size w w' := by
  refine (callsIn_wide (n := 9)).1 ?_
  refine callsIn_of_wp_marks Try.func3 rfl trivial ?_ rfl
  simp only [Try.ntmps3, List.size_toArray, List.length_cons, List.length_nil, Nat.reduceAdd, Nat.reduceSub, Array.replicate_succ, Array.replicate_zero, List.push_toArray, List.append_toArray, List.nil_append, List.cons_append]
  gi_wp2_with (refine ⟨trivial, ?_⟩; gi_at_call 10; refine (callsIn_wide.2 (head1_any _)).mono ?_; rintro e w1 ⟨rfl, hb1⟩; have q1 := (Boxed.new (w.alloc (.cells #[.int .i64 stop] 3)) 4 (.bool false)).kept (row := none) ⟨hb1.os, hb1.tape, hb1.output, hb1.size, fun k hk _ => hb1.block k hk⟩ (by simp); rw [World.size_alloc] at q1; have cq := q1.cell; have fq := q1.frozen)
  have hB1 : Below w.heap.size w w1 := (((Below.refl _ _).alloc (Nat.le_refl _) _).alloc (by simp) _).trans (hb1.mono (by simp; omega))
  have hcq := (q1.set (.bool true)).cell
  refine ⟨.bool true, ?_, rfl, hB1.setCell (p := ⟨w.heap.size + 1, 0, none⟩) (by simp) _⟩
  simp [results, Try.f3, go_sem, hcq]

end Go.Proofs.Ytdoglpaggmdnpaa
