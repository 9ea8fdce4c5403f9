/- Tables in memory: two rows side by side; what a call may turn. -/
import Derived.Test.YtfkbjniodomdjaaDoorQa
import Derived.Test.YtfkbjniodomdjaaDoorQp
import Derived.RangeFuncFrom
namespace Go.Proofs.YtfkbjniodomdjaaDoor
open Go.RowKit Go.Shelf Go.Lib

/-- only blocks of S have turned -/
structure Frm (S : Nat → Prop) (W W' : World) : Prop where
  os : W'.os = W.os
  tape : W'.tape = W.tape
  output : W'.output = W.output
  size : W.heap.size ≤ W'.heap.size
  block : ∀ k, k < W.heap.size → ¬ S k → W'.heap[k]? = W.heap[k]?
theorem Frm.refl (S : Nat → Prop) (W : World) : Frm S W W := ⟨rfl, rfl, rfl, Nat.le_refl _, fun _ _ _ => rfl⟩
theorem Frm.trans {S : Nat → Prop} {A B C : World} (h1 : Frm S A B) (h2 : Frm S B C) : Frm S A C :=
  ⟨h2.os.trans h1.os, h2.tape.trans h1.tape, h2.output.trans h1.output, Nat.le_trans h1.size h2.size, fun k hk hn => (h2.block k (Nat.lt_of_lt_of_le hk h1.size) hn).trans (h1.block k hk hn)⟩
/-- the second may turn what is new for the first -/
theorem Frm.trans' {S S' : Nat → Prop} {A B C : World} (h1 : Frm S A B) (h2 : Frm S' B C) (hS : ∀ k, S' k → S k ∨ A.heap.size ≤ k) : Frm S A C :=
  ⟨h2.os.trans h1.os, h2.tape.trans h1.tape, h2.output.trans h1.output, Nat.le_trans h1.size h2.size, fun k hk hn => (h2.block k (Nat.lt_of_lt_of_le hk h1.size) (fun h => by rcases hS k h with h | h; exact hn h; omega)).trans (h1.block k hk hn)⟩
theorem Frm.mono {S S' : Nat → Prop} {A B : World} (h : Frm S A B) (hS : ∀ k, S k → S' k) : Frm S' A B := ⟨h.os, h.tape, h.output, h.size, fun k hk hn => h.block k hk (fun hs => hn (hS k hs))⟩
theorem Frm.grown {S : Nat → Prop} {A B : World} {row : Option Nat} (h : A.grownBy B row) (hS : ∀ k, row = some k → S k) : Frm S A B :=
  ⟨h.os, h.tape, h.output, h.size, fun k hk hn => h.block k hk (fun e => hn (hS k e.symm))⟩
theorem Frm.below {S : Nat → Prop} {A B : World} (h : Below A.heap.size A B) : Frm S A B := ⟨h.os, h.tape, h.output, h.size, fun k hk _ => h.block k hk⟩
theorem Frm.alloc (S : Nat → Prop) (A : World) (o : Obj) : Frm S A (A.alloc o) := Frm.grown (World.grownBy_alloc A o none) (fun k e => by cases e)
theorem Frm.drewN (S : Nat → Prop) (A : World) (q : Nat) : Frm S A (A.drewN q) := ⟨rfl, rfl, rfl, Nat.le_refl _, fun _ _ _ => rfl⟩
theorem grown_setCellT (W : World) (p : Addr) (v : Value) : W.grownBy (W.setCell p v) (some p.block) :=
  ⟨rfl, rfl, rfl, by simp [World.setCell], fun k _ hk => Below.heap_setCell W p v k (fun e => hk (by rw [e]))⟩
theorem Frm.set {S : Nat → Prop} {A : World} {p : Addr} (v : Value) (hp : S p.block) : Frm S A (A.setCell p v) :=
  Frm.grown (grown_setCellT A p v) (fun k e => by cases e; exact hp)
theorem Frm.toBelow {S : Nat → Prop} {A B : World} {n : Nat} (h : Frm S A B) (hn : n ≤ A.heap.size) (hS : ∀ k, S k → n ≤ k) : Below n A B :=
  ⟨h.os, h.tape, h.output, h.size, fun k hk => h.block k (by omega) (fun hs => by have := hS k hs; omega)⟩
theorem Frm.own {S : Nat → Prop} {A B : World} {base sz n : Nat} {e : TypeId} {v : Value} {xs : List Value} (h : Frm S A B) (ho : A.ownsRow base e sz v n xs) (hv : ∀ k, v.ownBlock = some k → ¬ S k) : B.ownsRow base e sz v n xs := by
  refine ⟨ho.1, ?_⟩
  rcases ho.2 with hn | ⟨g, cap, cur, rfl, hb, hgg, rest⟩
  · exact .inl hn
  · exact .inr ⟨g, cap, cur, rfl, hb, (h.block g (Array.getElem?_eq_some_iff.1 hgg).1 (hv g rfl)).trans hgg, rest⟩

theorem own_far {w w' : World} {base sz n : Nat} {e : TypeId} {v : Value} {xs : List Value} {row : Option Nat} (h : w.ownsRow base e sz v n xs) (hg : w.grownBy w' row) (hne : ∀ g, v.ownBlock = some g → row = some g → False) : w'.ownsRow base e sz v n xs :=
  h.kept hg (by
    cases hv : v.ownBlock with
    | none => exact .inl rfl
    | some g => exact .inr (fun e => hne g hv e.symm))
theorem grown_drewN (w : World) (q : Nat) : w.grownBy (w.drewN q) none := ⟨rfl, rfl, rfl, Nat.le_refl _, fun _ _ _ => rfl⟩
theorem grown_drewN' (w : World) (q : Nat) (row : Option Nat) : w.grownBy (w.drewN q) row := ⟨rfl, rfl, rfl, Nat.le_refl _, fun _ _ _ => rfl⟩
theorem grown_trans' {a b c : World} {row : Option Nat} (h1 : a.grownBy b none) (h2 : b.grownBy c row) : a.grownBy c row :=
  ⟨h2.os.trans h1.os, h2.tape.trans h1.tape, h2.output.trans h1.output, Nat.le_trans h1.size h2.size, fun k hk hne => (h2.block k (Nat.lt_of_lt_of_le hk h1.size) hne).trans (h1.block k hk (by simp))⟩
theorem own_keepT {w w' : World} {base sz n : Nat} {e : TypeId} {v : Value} {xs : List Value} (h : w.ownsRow base e sz v n xs) (hb : Below w.heap.size w w') : w'.ownsRow base e sz v n xs :=
  own_far (row := none) h ⟨hb.os, hb.tape, hb.output, hb.size, fun k hk _ => hb.block k hk⟩ (fun _ _ e => by cases e)
/-- the blocks of a table -/
def TS (T : Nat) (v1 v2 : Value) (k : Nat) : Prop := k = T ∨ v1.ownBlock = some k ∨ v2.ownBlock = some k
/-- a table in memory: its block, and its two rows -/
structure Tab (tt e1 e2 : TypeId) (base T : Nat) (v1 v2 : Value) (xs ys : List Value) (W : World) : Prop where
  hd : W.heap[T]? = some (.cells #[v1, v2] tt (0, 0))
  r1 : W.ownsRow base e1 1 v1 xs.length xs
  r2 : W.ownsRow base e2 1 v2 xs.length ys
  ge : base ≤ T

section
variable {tt e1 e2 : TypeId} {base T : Nat} {v1 v2 : Value} {xs ys : List Value} {W W' : World}
theorem Tab.lt (h : Tab tt e1 e2 base T v1 v2 xs ys W) : T < W.heap.size := (Array.getElem?_eq_some_iff.1 h.hd).1
theorem Tab.keep {S : Nat → Prop} (h : Tab tt e1 e2 base T v1 v2 xs ys W) (hf : Frm S W W') (hS : ∀ k, TS T v1 v2 k → ¬ S k) : Tab tt e1 e2 base T v1 v2 xs ys W' :=
  ⟨(hf.block T h.lt (hS T (.inl rfl))).trans h.hd, hf.own h.r1 (fun k e => hS k (.inr (.inl e))), hf.own h.r2 (fun k e => hS k (.inr (.inr e))), h.ge⟩
theorem Tab.below (h : Tab tt e1 e2 base T v1 v2 xs ys W) (hb : Below W.heap.size W W') : Tab tt e1 e2 base T v1 v2 xs ys W' := h.keep (S := fun _ => False) (Frm.below hb) (fun _ _ h => h)
theorem Tab.in_ (h : Tab tt e1 e2 base T v1 v2 xs ys W) : ∀ k, TS T v1 v2 k → base ≤ k ∧ k < W.heap.size := by
  rintro k (rfl | e | e)
  · exact ⟨h.ge, h.lt⟩
  · exact h.r1.lt k e
  · exact h.r2.lt k e
theorem Tab.cells (h : Tab tt e1 e2 base T v1 v2 xs ys W) : W.cell? ⟨T, 0, none⟩ = some v1 ∧ W.cell? ⟨T, 1, none⟩ = some v2 ∧ W.frozen? ⟨T, 0, none⟩ = false ∧ W.frozen? ⟨T, 1, none⟩ = false := by
  refine ⟨?_, ?_, ?_, ?_⟩
  · rw [cell_of_row W T _ _ _ _ h.hd]; rfl
  · rw [cell_of_row W T _ _ _ _ h.hd]; rfl
  · simp [World.frozen?, h.hd]
  · simp [World.frozen?, h.hd]
theorem Tab.isCells (h : Tab tt e1 e2 base T v1 v2 xs ys W) : ∀ k, TS T v1 v2 k → ∃ o : Obj, W.heap[k]? = some o ∧ o.isCells = true := by
  rintro k (rfl | e | e)
  · exact ⟨_, h.hd, rfl⟩
  · rcases h.r1.2 with ⟨rfl, _⟩ | ⟨g, cap, cur, rfl, _, hg, _⟩
    · cases e
    · simp [Value.ownBlock] at e
      subst e
      exact ⟨_, hg, rfl⟩
  · rcases h.r2.2 with ⟨rfl, _⟩ | ⟨g, cap, cur, rfl, _, hg, _⟩
    · cases e
    · simp [Value.ownBlock] at e
      subst e
      exact ⟨_, hg, rfl⟩
theorem Tab.len (h : Tab tt e1 e2 base T v1 v2 xs ys W) : ys.length = xs.length := by have := h.r2.1; omega
/-- a row's block is another one than the table's, and than the other row's -/
theorem Tab.ne1 (h : Tab tt e1 e2 base T v1 v2 xs ys W) (ht : tt ≠ e1) : v1.ownBlock ≠ some T := by
  intro e
  rcases h.r1.2 with ⟨rfl, _⟩ | ⟨g, cap, cur, rfl, _, hg, _⟩
  · cases e
  · simp [Value.ownBlock] at e
    subst e
    have := h.hd
    rw [hg] at this
    injection this with this
    injection this with _ this
    exact ht this.symm
theorem Tab.ne2 (h : Tab tt e1 e2 base T v1 v2 xs ys W) (ht : tt ≠ e2) : v2.ownBlock ≠ some T := by
  intro e
  rcases h.r2.2 with ⟨rfl, _⟩ | ⟨g, cap, cur, rfl, _, hg, _⟩
  · cases e
  · simp [Value.ownBlock] at e
    subst e
    have := h.hd
    rw [hg] at this
    injection this with this
    injection this with _ this
    exact ht this.symm
theorem rows_ne {W : World} {b1 b2 n1 n2 : Nat} {e1 e2 : TypeId} {v1 v2 : Value} {xs ys : List Value} (h1 : W.ownsRow b1 e1 1 v1 n1 xs) (h2 : W.ownsRow b2 e2 1 v2 n2 ys) (he : e1 ≠ e2) : ∀ k, v1.ownBlock = some k → v2.ownBlock ≠ some k := by
  intro k ha hb
  rcases h1.2 with ⟨rfl, _⟩ | ⟨g, cap, cur, rfl, _, hg, _⟩
  · cases ha
  rcases h2.2 with ⟨rfl, _⟩ | ⟨g', cap', cur', rfl, _, hg', _⟩
  · cases hb
  simp [Value.ownBlock] at ha hb
  subst ha
  subst hb
  rw [hg] at hg'
  injection hg' with this
  injection this with _ this
  exact he this
/-- an own row's value is a slice -/
theorem own_sl {W : World} {b n : Nat} {e : TypeId} {v : Value} {xs : List Value} (h : W.ownsRow b e 1 v n xs) : ∃ A cap, v = .slice A n cap ∧ n ≤ cap ∧ cap ≤ maxLen ∧ (0 < n → ∃ g, A = some ⟨g, 0, none⟩ ∧ b ≤ g ∧ g < W.heap.size) := by
  rcases h.2 with ⟨rfl, rfl⟩ | ⟨g, cap, cur, rfl, hb, hg, hn, hm, _⟩
  · exact ⟨none, 0, rfl, Nat.le_refl _, Nat.zero_le _, fun h => absurd h (Nat.lt_irrefl _)⟩
  · exact ⟨_, cap, rfl, hn, hm, fun _ => ⟨g, rfl, hb, (Array.getElem?_eq_some_iff.1 hg).1⟩⟩
/-- an element of a row turned -/
theorem own_turn {W : World} {b n : Nat} {e : TypeId} {v : Value} {xs : List Value} {g : Nat} (h : W.ownsRow b e 1 v n xs) (hg : v.ownBlock = some g) (i : Nat) (u : Value) : (W.setCell ⟨g, i, none⟩ u).ownsRow b e 1 v n (xs.set i u) := by
  refine ⟨by rw [List.length_set]; exact h.1, ?_⟩
  rcases h.2 with ⟨rfl, _⟩ | ⟨g', cap, cur, rfl, hb, hgg, hn, hm, hcs, htk⟩
  · cases hg
  · simp [Value.ownBlock] at hg
    subst hg
    refine .inr ⟨g', cap, cur.setIfInBounds i u, rfl, hb, by simp [World.setCell, Array.getElem?_modify, hgg], hn, hm, by simpa using hcs, ?_⟩
    rw [Array.toList_setIfInBounds, List.take_set, htk]
end
end Go.Proofs.YtfkbjniodomdjaaDoor
