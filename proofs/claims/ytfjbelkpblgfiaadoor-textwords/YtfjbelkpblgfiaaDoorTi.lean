/- The iterator that text.Signs gives: for whatever loop body that leaves its bytes alone, all signs in order, or a beginning of them. -/
import Derived.Test.YtfjbelkpblgfiaaDoorTs
namespace Go.Proofs.YtfjbelkpblgfiaaDoor
open Go.RowKit Go.Shelf
attribute [local go_sem] Oper.semAt_some

theorem Src.own (b : List Int) (base B0 : Nat) (A : Option Addr) (cap : Nat) {W W' : World} {row : Option Nat} (h : Src b base B0 A cap W) (hg : W.grownBy W' row) (h1 : some B0 ≠ row) (h2 : (Value.slice A b.length cap).ownBlock = none ∨ (Value.slice A b.length cap).ownBlock ≠ row) : Src b base B0 A cap W' :=
  ⟨h.1.kept hg h1, h.2.kept hg h2⟩

theorem Src.weak {b : List Int} {base B0 : Nat} {A : Option Addr} {cap : Nat} {W : World} (h : Src b base B0 A cap W) : Src b 0 B0 A cap W :=
  ⟨h.1, h.2.1, by
    rcases h.2.2 with h' | ⟨g, cap', cur, h', _, rest⟩
    · exact .inl h'
    · exact .inr ⟨g, cap', cur, h', Nat.zero_le _, rest⟩⟩
theorem Src.bytes {b : List Int} {base B0 : Nat} {A : Option Addr} {cap : Nat} {W : World} (h : Src b base B0 A cap W) (hb : 0 < b.length) :
    ∃ g, A = some ⟨g, 0, none⟩ ∧ b.length ≤ cap ∧ ∀ i, i < b.length → W.cell? ⟨g, i, none⟩ = some (.int .u8 (b[i]?.getD 0)) := by
  rcases h.2.2 with ⟨_, hn⟩ | ⟨g, cap', cur, h', _, _, hnc, _⟩
  · omega
  · injection h' with h1 h2 h3
    subst h1 h3
    refine ⟨g, rfl, hnc, fun i hi => ?_⟩
    rw [h.2.cellAt i (by omega), List.getElem?_map, List.getElem?_eq_getElem hi]
    simp

theorem first_at (b : List Int) (p g cap n : Nat) (w : World) (hp : p < b.length) (hn : b.length - p = n) (hc : ∀ i, i < b.length → w.cell? ⟨g, i, none⟩ = some (.int .u8 (b[i]?.getD 0))) (hbd : ∀ i : Nat, 0 ≤ b[i]?.getD 0 ∧ b[i]?.getD 0 ≤ 255) (hl : b.length ≤ 1000000) :
    Calls Tryd.prog 24 #[.slice (some ⟨g, p, none⟩) n cap] w fun e w' => e = .returned (.tuple #[.int .i32 (Tx.one (b.drop p)).1, .int .i64 (Tx.one (b.drop p)).2]) ∧ w = w' := by
  have hlen : (b.drop p).length = n := by simp; omega
  rw [← hlen]
  refine first_any (b.drop p) g p cap w (by intro e; rw [e] at hlen; simp at hlen; omega) (fun i hi => ?_) (fun i => ?_) (by simp; omega)
  · rw [hc (p + i) (by simp at hi; omega)]
    simp
  · have := hbd (p + i)
    simpa using this

abbrev encSign (x : Nat × Int) : Array Value := #[.int .i64 x.1, .int .i32 x.2]

set_option maxRecDepth 100000 in
set_option maxHeartbeats 1000000 in
theorem signs1_in (n : Nat) (hn : 1 ≤ n) (l : Nat) (b : List Int) (base B0 : Nat) (A : Option Addr) (cap : Nat) (J Jx : List (Nat × Int) → World → Prop) (hl : b.length ≤ 1000000) (hbd : ∀ i : Nat, 0 ≤ b[i]?.getD 0 ∧ b[i]?.getD 0 ≤ 255)
    (hY : ∀ pre x W, J pre W → pre.length < b.length + 1 → YieldAt Fence.wide (n - 1) Tryd.prog l (encSign x) W fun e W' =>
      (e = .returned (.bool true) ∧ J (pre ++ [x]) W' ∧ (Src b base B0 A cap W → Src b base B0 A cap W')) ∨ (e = .returned (.bool false) ∧ Jx (pre ++ [x]) W'))
    (W : World) (hS : Src b base B0 A cap W) (h0 : J [] W) :
    CallsIn Fence.wide n Tryd.prog 23 #[.func (.yield l) #[] #[], .pointer (some ⟨B0, 0, none⟩)] W fun e W' => (∃ v, e = .returned v) ∧
      ((∃ ys, ys = Tx.signs b ∧ J ys W') ∨ (∃ pre, pre <+: Tx.signs b ∧ Jx pre W')) := by
  refine callsIn_of_wp Tryd.func23 rfl trivial ?_ rfl
  simp only [Tryd.ntmps23, List.size_toArray, List.length_cons, List.length_nil, Nat.reduceAdd, Nat.reduceSub, Array.replicate_succ, Array.replicate_zero, List.push_toArray, List.append_toArray, List.nil_append, List.cons_append]
  gi_wp2
  gi_loopw [3] (fun i wr => ∃ (p : Nat) (pre : List (Nat × Int)), i = .int .i64 p ∧ p ≤ b.length ∧ Tx.signs b = pre ++ Tx.rest b p ∧ pre.length ≤ p ∧ Src b base B0 A cap wr ∧ J pre wr)
    (fun i _ => b.length - (intOf i).toNat)
  case atStart => exact ⟨0, [], rfl, by omega, rfl, by simp, hS, h0⟩
  case round =>
    obtain ⟨p, pre, rfl, hp, hx, hpl, hs, hJs⟩ := hrel
    have hcell := hs.1.cell
    have HX := Lib.hid hx
    clear hx
    by_cases hlt : p < b.length
    · obtain ⟨g, hA, hle, hcs⟩ := hs.bytes (by omega)
      subst hA
      have hne : ¬ cap = p := by omega
      have C := first_at b p g (cap - p) (b.length - p) wr hlt rfl hcs hbd hl
      have HC := Lib.hid C
      have h1 := Tx.one_le b p hlt
      have HR := Lib.hid (Tx.rest_step b p hlt)
      obtain ⟨r, hr⟩ : ∃ r, (Tx.one (b.drop p)).1 = r := ⟨_, rfl⟩
      obtain ⟨sz, hsz⟩ : ∃ sz, (Tx.one (b.drop p)).2 = sz := ⟨_, rfl⟩
      rw [hr, hsz] at HC HR
      rw [hsz] at h1
      obtain ⟨h2, h3⟩ := h1
      obtain ⟨fn, tmps, assign, body, hy, hR⟩ := hY pre (p, r) wr hJs (by omega)
      clear C hcs hbd hr hsz
      gi_wp2_with (refine ⟨trivial, ?_⟩; gi_at_call 24; refine (callsIn_wide.2 HC.out).mono ?_; rintro e w' ⟨rfl, rfl⟩)
      refine hR.mono ?_
      rintro e W3 (⟨rfl, hJ3, hk3⟩ | ⟨rfl, hJx3⟩)
      · have hs3 := hk3 hs
        gi_wp2
        go_roundw
        case rel => exact ⟨p + sz, pre ++ [(p, r)], by go_num, h3, by rw [HX.out, HR.out]; simp, by simp; omega, hs3, hJ3⟩
        case measure => simp [intOf]; omega
      · gi_wp2
        refine bodyPost_ret (results_none rfl _ _ _) rfl ?_
        exact ⟨⟨_, rfl⟩, .inr ⟨pre ++ [(p, r)], ⟨Tx.rest b (p + sz), by rw [HX.out, HR.out]; simp⟩, hJx3⟩⟩
    · gi_wp2
      go_end0
      exact ⟨⟨_, rfl⟩, .inl ⟨pre, by rw [HX.out, Tx.rest_end b p hlt, List.append_nil], hJs⟩⟩

theorem signs1_stops (n : Nat) (hn : 1 ≤ n) (b : List Int) (base B0 : Nat) (A : Option Addr) (cap : Nat) (hl : b.length ≤ 1000000) (hbd : ∀ i : Nat, 0 ≤ b[i]?.getD 0 ∧ b[i]?.getD 0 ≤ 255) (w : World) (hS : Src b base B0 A cap w) :
    SeqStopsK Fence.wide n Tryd.prog 23 #[.pointer (some ⟨B0, 0, none⟩)] encSign (fun W W' => Src b base B0 A cap W → Src b base B0 A cap W') (fun xs => xs = Tx.signs b) (fun pre => pre <+: Tx.signs b) (b.length + 1) w :=
  fun l J Jx W hW _ _ hY h0 => signs1_in n hn l b base B0 A cap J Jx hl hbd hY W
    (hS.own _ _ _ _ _ (row := none) ⟨hW.os, hW.tape, hW.output, hW.size, fun k hk _ => hW.block k hk⟩ (by simp) (by cases A <;> simp [Value.ownBlock])) h0

theorem src_kt {b : List Int} {base B0 : Nat} {A : Option Addr} {cap : Nat} : ∀ {X Y Z : World}, (Src b base B0 A cap X → Src b base B0 A cap Y) → (Src b base B0 A cap Y → Src b base B0 A cap Z) → (Src b base B0 A cap X → Src b base B0 A cap Z) := fun h k x => k (h x)
theorem src_kb {b : List Int} {base B0 : Nat} {A : Option Addr} {cap : Nat} (W : World) (l : Nat) (o o' : Obj) (hl : W.heap[l]? = some o) (ho : o.isCells = false) : Src b base B0 A cap W → Src b base B0 A cap (W.putObj l o') := by
  intro h
  refine h.own _ _ _ _ _ (grownBy_putObj' W l o') ?_ ?_
  · intro e
    have e' : B0 = l := Option.some.inj e
    subst e'
    have h1 : W.heap[B0]? = _ := h.1
    rw [hl] at h1
    cases h1
    cases ho
  · right
    intro e
    rcases h.2.2 with ⟨h', _⟩ | ⟨g, cap', cur, h', _, hg, _⟩
    · rw [h'] at e
      simp [Value.ownBlock] at e
    · rw [h'] at e
      simp only [Value.ownBlock, Option.some.injEq] at e
      subst e
      rw [hl] at hg
      cases hg
      cases ho

theorem grown_setCell (W : World) (B : Nat) (v : Value) : W.grownBy (W.setCell ⟨B, 0, none⟩ v) (some B) :=
  ⟨rfl, rfl, rfl, by simp [World.setCell], fun k _ hk => Below.heap_setCell W ⟨B, 0, none⟩ v k (fun e => hk (by rw [e]))⟩
/-- a store into a box of another type leaves the bytes alone -/
theorem Src.set {b : List Int} {base B0 : Nat} {A : Option Addr} {cap : Nat} {W : World} {B : Nat} {t : TypeId} {u : Value} (h : Src b base B0 A cap W) (hT : Boxed W B t u) (h1 : t ≠ 23) (h2 : t ≠ 5) (v : Value) : Src b base B0 A cap (W.setCell ⟨B, 0, none⟩ v) := by
  refine h.own _ _ _ _ _ (grown_setCell W B v) ?_ ?_
  · intro e
    have e' : B0 = B := Option.some.inj e
    subst e'
    have h3 : W.heap[B0]? = _ := h.1
    have h4 : W.heap[B0]? = _ := hT
    rw [h3] at h4
    cases h4
    exact h1 rfl
  · right
    intro e
    exact hT.not_row h2 h.2 e.symm
/-- so does an append onto a row of another type -/
theorem Src.app {b : List Int} {base B0 : Nat} {A : Option Addr} {cap : Nat} {W w1 : World} {tmp : Obj} {n₀ k : Nat} {e : TypeId} {v : Value} {xs : List Value} (h : Src b base B0 A cap W) (hrow : W.ownsRow n₀ e 1 v k xs) (h1 : e ≠ 23) (h2 : e ≠ 5) (hg : (W.alloc tmp).grownBy w1 v.ownBlock) : Src b base B0 A cap w1 := by
  have h' : Src b base B0 A cap (W.alloc tmp) := ⟨h.1.alloc _, h.2.alloc _⟩
  refine h'.own _ _ _ _ _ hg ?_ ?_
  · exact h.1.not_row h1.symm hrow
  · rcases h.2.2 with ⟨hn, _⟩ | ⟨g, cap', cur, hn, _, hgb, _⟩
    · left; rw [hn]; rfl
    · right
      rw [hn]
      intro e'
      rcases hrow.2 with ⟨rfl, _⟩ | ⟨g2, cap2, cur2, rfl, _, hgb2, _⟩
      · simp [Value.ownBlock] at e'
      · simp only [Value.ownBlock, Option.some.injEq] at e'
        subst e'
        rw [hgb] at hgb2
        cases hgb2
        exact h2 rfl

end Go.Proofs.YtfjbelkpblgfiaaDoor
