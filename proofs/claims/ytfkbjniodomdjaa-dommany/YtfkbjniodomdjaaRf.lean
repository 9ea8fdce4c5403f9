/- A range over an iterator that hands memory of its own to each round: the round is told what lies there (R). -/
import Derived.Test.YtfkbjniodomdjaaMem
import Derived.RangeFuncWrites
namespace Go.Proofs.Ytfkbjniodomdjaa
open Go.RowKit

/-- the iterator's promise: whenever it yields x, R x holds -/
def SeqR {α : Type} (n : Nat) (P : Program) (g : Nat) (lb : Array Value) (encs : α → Array Value) (R : α → World → Prop) (Kp : World → World → Prop) (S Sp : List α → Prop) (N : Nat) (w : World) : Prop :=
  ∀ (l : Nat) (J Jx : List α → World → Prop) (W : World), Below w.heap.size w W → AbidesFrom W.heap.size J → AbidesFrom W.heap.size Jx →
    (∀ pre x W1, J pre W1 → pre.length < N → R x W1 → YieldAt Fence.wide (n - 1) P l (encs x) W1 fun e W' =>
      (e = .returned (.bool true) ∧ J (pre ++ [x]) W' ∧ Kp W1 W') ∨ (e = .returned (.bool false) ∧ Jx (pre ++ [x]) W')) →
    J [] W →
    CallsIn Fence.wide n P g (#[.func (.yield l) #[] #[]] ++ lb) W fun e W' => (∃ v, e = .returned v) ∧ ((∃ xs, S xs ∧ J xs W') ∨ (∃ pre, Sp pre ∧ Jx pre W'))

/-- the two blocks of a loop under way: its deferred calls at B, its record behind -/
structure RecAt (B : Nat) (r : Loop) (W : World) : Prop where
  df : W.heap[B]? = some (.deferred (some []))
  lp : W.heap[B + 1]? = some (.loop r)
theorem RecAt.walk {B : Nat} {r : Loop} {W W' : World} {row : Option Nat} (h : RecAt B r W) (hg : W.grownBy W' row) (hr : ∀ k, row = some k → ∃ o : Obj, W.heap[k]? = some o ∧ o.isWalk = true) : RecAt B r W' :=
  ⟨(grownBy_keeps hg hr h.df rfl).trans h.df, (grownBy_keeps hg hr h.lp rfl).trans h.lp⟩
theorem RecAt.turn {B : Nat} {r r' : Loop} {W : World} (h : RecAt B r W) : RecAt B r' (W.putObj (B + 1) (.loop r')) :=
  ⟨(World.putObj_heap_other (by omega)).trans h.df, World.putObj_heap_same (Array.getElem?_eq_some_iff.1 h.lp).1⟩
theorem RecAt.keeps {B : Nat} {r : Loop} {W W' : World} (h : RecAt B r W) (hk : KeepsOthers W W') : RecAt B r W' := ⟨hk.same _ _ h.df rfl, hk.same _ _ h.lp rfl⟩

section
variable {α : Type} {P : Program} {g : Operand} {ps : Array Tmp} {assign body : Code} {Q : Exit → Act → World → Prop} {a : Act} {w : World} {gf : Nat} {lb : Array Value}
  {encs : α → Array Value} {R : α → World → Prop} {Kp : World → World → Prop} {S Sp : List α → Prop} {N : Nat}
/-- the loop's record -/
abbrev recOf (ps : Array Tmp) (assign body : Code) (a : Act) (w : World) (fn : FuncId) (st : LoopState) (pe : Option Code) : Loop := { state := st, pending := pe, fn, tmps := a.tmps, params := ps, assign, body, defers := w.heap.size }

/-- how a round ends: its record is ready again, or done -/
theorem round_end {fn : FuncId} {W W3 : World} (jump : Option Code) (h : RecAt w.heap.size (recOf ps assign body a w fn .busy none) W) (hk : KeepsOthers W W3) :
    (Instr.endRound (w.heap.size + 1) jump).run P W3 = .ok (.bool jump.isNone) (W3.putObj (w.heap.size + 1) (.loop (recOf ps assign body a w fn (if jump.isNone then .ready else .done) jump))) ∧
      RecAt w.heap.size (recOf ps assign body a w fn .busy none) W3 :=
  ⟨run_endRound (P := P) jump (h.keeps hk).lp, h.keeps hk⟩

theorem range_R (hg : a.eval g = .func (.func gf) #[] lb) (eg : ∀ args w, (callFunc gf args).run P w = .ok (.enter gf args) w)
    (hseq : SeqR 8 P gf lb encs R Kp S Sp N w) (hR : ∀ (x : α) (W : World) (l : Nat) (o o' : Obj), R x W → W.heap[l]? = some o → o.isCells = false → R x (W.putObj l o'))
    (hKt : ∀ {A B C : World}, Kp A B → Kp B C → Kp A C) (hKb : ∀ (W : World) (l : Nat) (o o' : Obj), W.heap[l]? = some o → o.isCells = false → Kp W (W.putObj l o')) (hps : ∀ x, (encs x).size = ps.size)
    (I : List α → World → Prop) (Ix : Code → List α → World → Prop) (hI : OwnFrom w.heap.size I) (hIx : ∀ c, OwnFrom w.heap.size (Ix c)) (h0 : I [] w) (a₁ : α → Act)
    (hassign : ∀ (l : Nat) (x : α) (W : World) (K : Act → World → Prop), K (a₁ x) W →
      assign.wpIn (Fence.wide.inRound l) 7 P (Exit.then K (fun _ _ _ => False)) { tmps := (ps.zip (encs x)).foldl (fun t (p, v) => t.setIfInBounds p v) a.tmps, defers := [] } W)
    (hbody : ∀ (l : Nat) (pre : List α) (x : α) (W : World), I pre W → pre.length < N → R x W → body.wpIn (Fence.wide.inRound l) 7 P (ownPostK Kp I Ix (pre ++ [x]) W) (a₁ x) W)
    (hdone : ∀ (D : Nat) (xs : List α) (W : World), w.heap.size ≤ D → S xs → I xs W → W.heap[D]? = some (.deferred (some [])) → Q .normal { a with defers := { target := .collected D, args := #[] } :: a.defers } W)
    (hstop : ∀ (D : Nat) (c : Code) (pre : List α) (W : World), w.heap.size ≤ D → Sp pre → Ix c pre W → W.heap[D]? = some (.deferred (some [])) → c.wpIn Fence.wide 9 P Q { a with defers := { target := .collected D, args := #[] } :: a.defers } W) :
    (Code.rangeFunc g ps assign body).wpIn Fence.wide 9 P Q a w := by
  refine wpIn_rangeFunc fun fn hfn => ?_
  obtain ⟨W1, hW1⟩ : ∃ W1, (w.alloc (.deferred (some []))).alloc (.loop (recOf ps assign body a w fn .ready none)) = W1 := ⟨_, rfl⟩
  have hs1 : W1.heap.size = w.heap.size + 2 := by rw [← hW1]; simp
  have hb1 : Below w.heap.size w W1 := by rw [← hW1]; exact ((Below.refl _ w).alloc (Nat.le_refl _) _).alloc (by simp) _
  have hrec : RecAt w.heap.size (recOf ps assign body a w fn .ready none) W1 := by
    rw [← hW1]
    refine ⟨(Below.heap_alloc _ _ _ (by simp)).trans (World.alloc_heap_new w _), ?_⟩
    have := World.alloc_heap_new (w.alloc (.deferred (some []))) (.loop (recOf ps assign body a w fn .ready none))
    rwa [World.size_alloc] at this
  have hI1 : I [] W1 := by rw [← hW1]; exact hI.alloc _ (hI.alloc _ h0)
  have far : ∀ {A : World} {row : Option Nat}, (∀ k, row = some k → W1.heap.size ≤ k ∧ ∃ o : Obj, A.heap[k]? = some o ∧ o.isWalk = true) → ∀ k, row = some k → w.heap.size ≤ k ∧ ∃ o : Obj, A.heap[k]? = some o ∧ o.isCells = false := fun hr k e => by
    obtain ⟨h1, o, h2, h3⟩ := hr k e
    exact ⟨by omega, o, h2, Obj.not_cells_of_walk h3⟩
  refine ⟨w.heap.size + 1, [{ target := .collected w.heap.size, args := #[] }], W1, { target := .fn (.func gf) lb, args := #[.func (.yield (w.heap.size + 1)) #[] #[]] }, W1, gf,
    #[.func (.yield (w.heap.size + 1)) #[] #[]] ++ lb, W1, ?_, ?_, fun _ _ => trivial, ?_, fun _ => by omega, ?_⟩
  · rw [← hW1]; exact run_enterLoop_outer _ _ _ _ _
  · simp only [resolve, hg]
    simp [go_sem]
  · simp [invoke, go_sem, eg]
  have call := hseq (w.heap.size + 1) (fun pre W => I pre W ∧ RecAt w.heap.size (recOf ps assign body a w fn .ready none) W)
    (fun pre W => ∃ c, Ix c pre W ∧ RecAt w.heap.size (recOf ps assign body a w fn .done (some c)) W) W1 hb1
    (fun s A B row h hg' hr => ⟨hI s A B row h.1 hg' (far hr), h.2.walk hg' (fun k e => (hr k e).2)⟩)
    (fun s A B row h hg' hr => by
      obtain ⟨c, h1, h2⟩ := h
      exact ⟨c, hIx c s A B row h1 hg' (far hr), h2.walk hg' (fun k e => (hr k e).2)⟩)
  refine (call ?_ ⟨hI1, hrec⟩).mono ?_
  · rintro pre x W ⟨hi, hr⟩ hlen hx
    have hy := run_yield (P := P) (args := encs x) hr.lp (hps x)
    refine ⟨fn, _, assign, body, hy, roundIn_of_wpIn hfn (hassign _ x W _ ⟨_, run_beginRound hr.lp rfl, ?_⟩)⟩
    have hr2 : RecAt w.heap.size (recOf ps assign body a w fn .busy none) (W.putObj (w.heap.size + 1) (.loop (recOf ps assign body a w fn .busy none))) := hr.turn
    refine wpIn_mono (hbody _ pre x _ (hI.putObj _ hi (by omega) hr.lp rfl) hlen (hR x W _ _ _ hx hr.lp rfl)) ?_
    have k1 := hKb W _ _ (.loop (recOf ps assign body a w fn .busy none)) hr.lp rfl
    have left : ∀ (c : Code) (W3 : World), KeepsOthers (W.putObj (w.heap.size + 1) (.loop (recOf ps assign body a w fn .busy none))) W3 → Ix c (pre ++ [x]) W3 →
        (fun e W' => (e = Ending.returned (.bool true) ∧ (I (pre ++ [x]) W' ∧ RecAt w.heap.size (recOf ps assign body a w fn .ready none) W') ∧ Kp W W') ∨ (e = Ending.returned (.bool false) ∧ ∃ c, Ix c (pre ++ [x]) W' ∧ RecAt w.heap.size (recOf ps assign body a w fn .done (some c)) W')) (.returned (.bool false)) (W3.putObj (w.heap.size + 1) (.loop (recOf ps assign body a w fn .done (some c)))) := fun c W3 hk hx3 => by
      have h3 := (round_end (P := P) (some c) hr2 hk).2
      exact .inr ⟨rfl, c, (hIx c).putObj _ hx3 (by omega) h3.lp rfl, h3.turn⟩
    rintro e a3 W3 hp
    cases e with
    | normal =>
      obtain ⟨hk, hkp, hi3⟩ := hp
      obtain ⟨hrun, h3⟩ := round_end (P := P) none hr2 hk
      exact ⟨_, _, hrun, .inl ⟨rfl, ⟨hI.putObj _ hi3 (by omega) h3.lp rfl, h3.turn⟩, hKt (hKt k1 hkp) (hKb W3 _ _ _ h3.lp rfl)⟩⟩
    | ret => exact ⟨_, _, (round_end (P := P) (some .ret) hr2 hp.1).1, left .ret W3 hp.1 hp.2⟩
    | exit id => exact ⟨_, _, (round_end (P := P) (some (.exit id)) hr2 hp.1).1, left (.exit id) W3 hp.1 hp.2⟩
    | goto t => exact ⟨_, _, (round_end (P := P) (some (.goto t)) hr2 hp.1).1, left (.goto t) W3 hp.1 hp.2⟩
    | panic ch => exact hp.elim
    | outgrown => exact hp.elim
  · rintro e W2 ⟨⟨v, rfl⟩, (⟨xs, hS, hi, hr⟩ | ⟨pre, hSp, c, hi, hr⟩)⟩
    · exact ⟨none, _, run_endLoop (P := P) hr.lp (by simp), hdone _ xs _ (Nat.le_refl _) hS (hI.putObj _ hi (by omega) hr.lp rfl) ((World.putObj_heap_other (by omega)).trans hr.df)⟩
    · exact ⟨some c, _, run_endLoop (P := P) hr.lp (by simp), hstop _ c pre _ (Nat.le_refl _) hSp ((hIx c).putObj _ hi (by omega) hr.lp rfl) ((World.putObj_heap_other (by omega)).trans hr.df)⟩
end
end Go.Proofs.Ytfkbjniodomdjaa
