/- What a call may turn: blocks of a set, and new ones. -/
import Derived.Test.YtfkbjniodomdjaaGm
namespace Go.Proofs.Ytfkbjniodomdjaa
open Go.RowKit Go.Lib

/-- only blocks of S have turned -/
structure Frm (S : Nat → Prop) (W W' : World) : Prop where
  os : W'.os = W.os
  tape : W'.tape = W.tape
  output : W'.output = W.output
  size : W.heap.size ≤ W'.heap.size
  block : ∀ k, k < W.heap.size → ¬ S k → W'.heap[k]? = W.heap[k]?
theorem Frm.refl (S : Nat → Prop) (W : World) : Frm S W W := ⟨rfl, rfl, rfl, Nat.le_refl _, fun _ _ _ => rfl⟩
theorem Frm.trans {S : Nat → Prop} {A B C : World} (h1 : Frm S A B) (h2 : Frm S B C) : Frm S A C :=
  ⟨h2.os.trans h1.os, h2.tape.trans h1.tape, h2.output.trans h1.output, Nat.le_trans h1.size h2.size, fun k hk hn => (h2.block k (Nat.lt_of_lt_of_le hk h1.size) hn).trans (h1.block k hk hn)⟩
/-- the second may turn what is new for the first -/
theorem Frm.trans' {S S' : Nat → Prop} {A B C : World} (h1 : Frm S A B) (h2 : Frm S' B C) (hS : ∀ k, S' k → S k ∨ A.heap.size ≤ k) : Frm S A C :=
  ⟨h2.os.trans h1.os, h2.tape.trans h1.tape, h2.output.trans h1.output, Nat.le_trans h1.size h2.size, fun k hk hn => (h2.block k (Nat.lt_of_lt_of_le hk h1.size) (fun h => by rcases hS k h with h | h; exact hn h; omega)).trans (h1.block k hk hn)⟩
theorem Frm.mono {S S' : Nat → Prop} {A B : World} (h : Frm S A B) (hS : ∀ k, S k → S' k) : Frm S' A B := ⟨h.os, h.tape, h.output, h.size, fun k hk hn => h.block k hk (fun hs => hn (hS k hs))⟩
theorem Frm.grown {S : Nat → Prop} {A B : World} {row : Option Nat} (h : A.grownBy B row) (hS : ∀ k, row = some k → S k) : Frm S A B :=
  ⟨h.os, h.tape, h.output, h.size, fun k hk hn => h.block k hk (fun e => hn (hS k e.symm))⟩
theorem Frm.below {S : Nat → Prop} {A B : World} (h : Below A.heap.size A B) : Frm S A B := ⟨h.os, h.tape, h.output, h.size, fun k hk _ => h.block k hk⟩
theorem Frm.alloc (S : Nat → Prop) (A : World) (o : Obj) : Frm S A (A.alloc o) := Frm.grown (World.grownBy_alloc A o none) (fun k e => by cases e)
theorem Frm.drewN (S : Nat → Prop) (A : World) (q : Nat) : Frm S A (A.drewN q) := ⟨rfl, rfl, rfl, Nat.le_refl _, fun _ _ _ => rfl⟩
theorem grown_setCellT (W : World) (p : Addr) (v : Value) : W.grownBy (W.setCell p v) (some p.block) :=
  ⟨rfl, rfl, rfl, by simp [World.setCell], fun k _ hk => Below.heap_setCell W p v k (fun e => hk (by rw [e]))⟩
theorem Frm.set {S : Nat → Prop} {A : World} {p : Addr} (v : Value) (hp : S p.block) : Frm S A (A.setCell p v) :=
  Frm.grown (grown_setCellT A p v) (fun k e => by cases e; exact hp)
theorem Frm.toBelow {S : Nat → Prop} {A B : World} {n : Nat} (h : Frm S A B) (hn : n ≤ A.heap.size) (hS : ∀ k, S k → n ≤ k) : Below n A B :=
  ⟨h.os, h.tape, h.output, h.size, fun k hk => h.block k (by omega) (fun hs => by have := hS k hs; omega)⟩
theorem Frm.own {S : Nat → Prop} {A B : World} {base sz n : Nat} {e : TypeId} {v : Value} {xs : List Value} (h : Frm S A B) (ho : A.ownsRow base e sz v n xs) (hv : ∀ k, v.ownBlock = some k → ¬ S k) : B.ownsRow base e sz v n xs := by
  refine ⟨ho.1, ?_⟩
  rcases ho.2 with hn | ⟨g, cap, cur, rfl, hb, hgg, rest⟩
  · exact .inl hn
  · exact .inr ⟨g, cap, cur, rfl, hb, (h.block g (Array.getElem?_eq_some_iff.1 hgg).1 (hv g rfl)).trans hgg, rest⟩
theorem Frm.cell {S : Nat → Prop} {A B : World} (h : Frm S A B) {p : Addr} (hp : p.block < A.heap.size) (hn : ¬ S p.block) : B.cell? p = A.cell? p := World.cell?_of_block (a := p) (h.block p.block hp hn)
end Go.Proofs.Ytfkbjniodomdjaa
