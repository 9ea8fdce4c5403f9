/- A range over an iterator that has boxes of its own, which it turns between two rounds: c of them, laid first of all. -/
import Derived.Test.YtfkbjniodomdjaaRf
namespace Go.Proofs.Ytfkbjniodomdjaa
open Go.RowKit

/-- J abides the iterator: boxes of its own, c of them from B on, turn, and memory is made -/
def AbidesE {β : Type} (B c : Nat) (J : β → World → Prop) : Prop :=
  ∀ s W W' row, J s W → W.grownBy W' row → (∀ r, row = some r → B ≤ r ∧ r < B + c) → J s W'
/-- the iterator's promise: it turns nothing but its own boxes; each round is told that they lie there -/
def SeqE {α : Type} (n : Nat) (P : Program) (g : Nat) (lb : Array Value) (encs : α → Array Value) (c : Nat) (Kp : Nat → World → World → Prop) (S Sp : List α → Prop) (N : Nat) (w : World) : Prop :=
  ∀ (l : Nat) (J Jx : List α → World → Prop) (W : World), Below w.heap.size w W → AbidesE W.heap.size c J → AbidesE W.heap.size c Jx →
    (∀ pre x W1, J pre W1 → pre.length < N → W.heap.size + c ≤ W1.heap.size → YieldAt Fence.wide (n - 1) P l (encs x) W1 fun e W' =>
      (e = .returned (.bool true) ∧ J (pre ++ [x]) W' ∧ Kp W.heap.size W1 W') ∨ (e = .returned (.bool false) ∧ Jx (pre ++ [x]) W')) →
    J [] W →
    CallsIn Fence.wide n P g (#[.func (.yield l) #[] #[]] ++ lb) W fun e W' => (∃ v, e = .returned v) ∧ ((∃ xs, S xs ∧ J xs W') ∨ (∃ pre, Sp pre ∧ Jx pre W'))
theorem RecAt.abides {B c : Nat} {r : Loop} {W W' : World} {row : Option Nat} (h : RecAt B r W) (hg : W.grownBy W' row) (hr : ∀ k, row = some k → B + 2 ≤ k ∧ k < B + 2 + c) : RecAt B r W' :=
  ⟨(hg.block _ (Array.getElem?_eq_some_iff.1 h.df).1 (fun e => by have := hr _ e.symm; omega)).trans h.df, (hg.block _ (Array.getElem?_eq_some_iff.1 h.lp).1 (fun e => by have := hr _ e.symm; omega)).trans h.lp⟩
section
variable {α : Type} {P : Program} {g : Operand} {ps : Array Tmp} {assign body : Code} {Q : Exit → Act → World → Prop} {a : Act} {w : World} {gf : Nat} {lb : Array Value}
  {encs : α → Array Value} {c : Nat} {Kp : Nat → World → World → Prop} {S Sp : List α → Prop} {N : Nat}
theorem range_E (hg : a.eval g = .func (.func gf) #[] lb) (eg : ∀ args w, (callFunc gf args).run P w = .ok (.enter gf args) w)
    (hseq : SeqE 8 P gf lb encs c Kp S Sp N w)
    (hKt : ∀ {B : Nat} {X Y Z : World}, Kp B X Y → Kp B Y Z → Kp B X Z) (hKb : ∀ (B : Nat) (W : World) (l : Nat) (o o' : Obj), l < B → W.heap[l]? = some o → o.isCells = false → Kp B W (W.putObj l o')) (hps : ∀ x, (encs x).size = ps.size)
    (I : List α → World → Prop) (Ix : Code → List α → World → Prop) (hI : OwnFrom w.heap.size I) (hIx : ∀ d, OwnFrom w.heap.size (Ix d)) (hIE : AbidesE (w.heap.size + 2) c I) (hIxE : ∀ d, AbidesE (w.heap.size + 2) c (Ix d)) (h0 : I [] w) (a₁ : α → Act)
    (hassign : ∀ (l : Nat) (x : α) (W : World) (K : Act → World → Prop), K (a₁ x) W →
      assign.wpIn (Fence.wide.inRound l) 7 P (Exit.then K (fun _ _ _ => False)) { tmps := (ps.zip (encs x)).foldl (fun t (p, v) => t.setIfInBounds p v) a.tmps, defers := [] } W)
    (hbody : ∀ (l : Nat) (pre : List α) (x : α) (W : World), I pre W → pre.length < N → w.heap.size + 2 + c ≤ W.heap.size → body.wpIn (Fence.wide.inRound l) 7 P (ownPostK (Kp (w.heap.size + 2)) I Ix (pre ++ [x]) W) (a₁ x) W)
    (hdone : ∀ (D : Nat) (xs : List α) (W : World), w.heap.size ≤ D → S xs → I xs W → W.heap[D]? = some (.deferred (some [])) → Q .normal { a with defers := { target := .collected D, args := #[] } :: a.defers } W)
    (hstop : ∀ (D : Nat) (d : Code) (pre : List α) (W : World), w.heap.size ≤ D → Sp pre → Ix d pre W → W.heap[D]? = some (.deferred (some [])) → d.wpIn Fence.wide 9 P Q { a with defers := { target := .collected D, args := #[] } :: a.defers } W) :
    (Code.rangeFunc g ps assign body).wpIn Fence.wide 9 P Q a w := by
  refine wpIn_rangeFunc fun fn hfn => ?_
  obtain ⟨W1, hW1⟩ : ∃ W1, (w.alloc (.deferred (some []))).alloc (.loop (recOf ps assign body a w fn .ready none)) = W1 := ⟨_, rfl⟩
  have hs1 : W1.heap.size = w.heap.size + 2 := by rw [← hW1]; simp
  have hb1 : Below w.heap.size w W1 := by rw [← hW1]; exact ((Below.refl _ w).alloc (Nat.le_refl _) _).alloc (by simp) _
  have hrec : RecAt w.heap.size (recOf ps assign body a w fn .ready none) W1 := by
    rw [← hW1]
    refine ⟨(Below.heap_alloc _ _ _ (by simp)).trans (World.alloc_heap_new w _), ?_⟩
    have := World.alloc_heap_new (w.alloc (.deferred (some []))) (.loop (recOf ps assign body a w fn .ready none))
    rwa [World.size_alloc] at this
  have hI1 : I [] W1 := by rw [← hW1]; exact hI.alloc _ (hI.alloc _ h0)
  refine ⟨w.heap.size + 1, [{ target := .collected w.heap.size, args := #[] }], W1, { target := .fn (.func gf) lb, args := #[.func (.yield (w.heap.size + 1)) #[] #[]] }, W1, gf,
    #[.func (.yield (w.heap.size + 1)) #[] #[]] ++ lb, W1, ?_, ?_, fun _ _ => trivial, ?_, fun _ => by omega, ?_⟩
  · rw [← hW1]; exact run_enterLoop_outer _ _ _ _ _
  · simp only [resolve, hg]
    simp [go_sem]
  · simp [invoke, go_sem, eg]
  have call := hseq (w.heap.size + 1) (fun pre W => I pre W ∧ RecAt w.heap.size (recOf ps assign body a w fn .ready none) W)
    (fun pre W => ∃ d, Ix d pre W ∧ RecAt w.heap.size (recOf ps assign body a w fn .done (some d)) W) W1 hb1
    (fun s A B row h hg' hr => by rw [hs1] at hr; exact ⟨hIE s A B row h.1 hg' hr, h.2.abides hg' hr⟩)
    (fun s A B row h hg' hr => by
      rw [hs1] at hr
      obtain ⟨d, h1, h2⟩ := h
      exact ⟨d, hIxE d s A B row h1 hg' hr, h2.abides hg' hr⟩)
  rw [hs1] at call
  refine (call ?_ ⟨hI1, hrec⟩).mono ?_
  · rintro pre x W ⟨hi, hr⟩ hlen hx
    have hy := run_yield (P := P) (args := encs x) hr.lp (hps x)
    refine ⟨fn, _, assign, body, hy, roundIn_of_wpIn hfn (hassign _ x W _ ⟨_, run_beginRound hr.lp rfl, ?_⟩)⟩
    have hr2 : RecAt w.heap.size (recOf ps assign body a w fn .busy none) (W.putObj (w.heap.size + 1) (.loop (recOf ps assign body a w fn .busy none))) := hr.turn
    refine wpIn_mono (hbody _ pre x _ (hI.putObj _ hi (by omega) hr.lp rfl) hlen (by simpa using hx)) ?_
    have k1 := hKb (w.heap.size + 2) W _ _ (.loop (recOf ps assign body a w fn .busy none)) (by omega) hr.lp rfl
    have left : ∀ (d : Code) (W3 : World), KeepsOthers (W.putObj (w.heap.size + 1) (.loop (recOf ps assign body a w fn .busy none))) W3 → Ix d (pre ++ [x]) W3 →
        (fun e W' => (e = Ending.returned (.bool true) ∧ (I (pre ++ [x]) W' ∧ RecAt w.heap.size (recOf ps assign body a w fn .ready none) W') ∧ Kp (w.heap.size + 2) W W') ∨ (e = Ending.returned (.bool false) ∧ ∃ d, Ix d (pre ++ [x]) W' ∧ RecAt w.heap.size (recOf ps assign body a w fn .done (some d)) W')) (.returned (.bool false)) (W3.putObj (w.heap.size + 1) (.loop (recOf ps assign body a w fn .done (some d)))) := fun d W3 hk hx3 => by
      have h3 := (round_end (P := P) (some d) hr2 hk).2
      exact .inr ⟨rfl, d, (hIx d).putObj _ hx3 (by omega) h3.lp rfl, h3.turn⟩
    rintro e a3 W3 hp
    cases e with
    | normal =>
      obtain ⟨hk, hkp, hi3⟩ := hp
      obtain ⟨hrun, h3⟩ := round_end (P := P) none hr2 hk
      exact ⟨_, _, hrun, .inl ⟨rfl, ⟨hI.putObj _ hi3 (by omega) h3.lp rfl, h3.turn⟩, hKt (hKt k1 hkp) (hKb _ W3 _ _ _ (by omega) h3.lp rfl)⟩⟩
    | ret => exact ⟨_, _, (round_end (P := P) (some .ret) hr2 hp.1).1, left .ret W3 hp.1 hp.2⟩
    | exit id => exact ⟨_, _, (round_end (P := P) (some (.exit id)) hr2 hp.1).1, left (.exit id) W3 hp.1 hp.2⟩
    | goto t => exact ⟨_, _, (round_end (P := P) (some (.goto t)) hr2 hp.1).1, left (.goto t) W3 hp.1 hp.2⟩
    | panic ch => exact hp.elim
    | outgrown => exact hp.elim
  · rintro e W2 ⟨⟨v, rfl⟩, (⟨xs, hS, hi, hr⟩ | ⟨pre, hSp, d, hi, hr⟩)⟩
    · exact ⟨none, _, run_endLoop (P := P) hr.lp (by simp), hdone _ xs _ (Nat.le_refl _) hS (hI.putObj _ hi (by omega) hr.lp rfl) ((World.putObj_heap_other (by omega)).trans hr.df)⟩
    · exact ⟨some d, _, run_endLoop (P := P) hr.lp (by simp), hstop _ d pre _ (Nat.le_refl _) hSp ((hIx d).putObj _ hi (by omega) hr.lp rfl) ((World.putObj_heap_other (by omega)).trans hr.df)⟩
end
end Go.Proofs.Ytfkbjniodomdjaa
