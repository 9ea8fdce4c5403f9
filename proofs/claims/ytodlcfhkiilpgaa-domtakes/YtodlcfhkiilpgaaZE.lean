/- A range over an iterator that hands memory of its own to each round: the round is told what lies there (R). A range over an iterator that has boxes of its own, which it turns between two rounds: c of them, laid first of all. Walking a tree: what is shown beneath a node, in which order; what lies in memory meanwhile. The walk's own recursive closure: what it shows. Walk: its iterator's promise. strings.Builder: what its methods do to one that the call has made. -/
import Derived.Test.YtodlcfhkiilpgaaZA
import Derived.RangeFuncWrites
import Derived.Test.YtodlcfhkiilpgaaZC
import Derived.Lib.Hide
import Derived.TacticsIn
import Derived.TacticsInMore
import Derived.LoopN
import Derived.LoopIn
import Derived.LoopNIn
import Derived.BigRegionIn
import Derived.Laws.EntriesVeiled
import Derived.Test.YtodlcfhkiilpgaaKShelf
namespace Go.Proofs.Ytodlcfhkiilpgaa
open Go.RowKit

/-- the iterator's promise: whenever it yields x, R x holds -/
def SeqR {α : Type} (n : Nat) (P : Program) (g : Nat) (lb : Array Value) (encs : α → Array Value) (R : α → World → Prop) (Kp : World → World → Prop) (S Sp : List α → Prop) (N : Nat) (w : World) : Prop :=
  ∀ (l : Nat) (J Jx : List α → World → Prop) (W : World), Below w.heap.size w W → AbidesFrom W.heap.size J → AbidesFrom W.heap.size Jx →
    (∀ pre x W1, J pre W1 → pre.length < N → R x W1 → YieldAt Fence.wide (n - 1) P l (encs x) W1 fun e W' =>
      (e = .returned (.bool true) ∧ J (pre ++ [x]) W' ∧ Kp W1 W') ∨ (e = .returned (.bool false) ∧ Jx (pre ++ [x]) W')) →
    J [] W →
    CallsIn Fence.wide n P g (#[.func (.yield l) #[] #[]] ++ lb) W fun e W' => (∃ v, e = .returned v) ∧ ((∃ xs, S xs ∧ J xs W') ∨ (∃ pre, Sp pre ∧ Jx pre W'))

/-- the two blocks of a loop under way: its deferred calls at B, its record behind -/
structure RecAt (B : Nat) (r : Loop) (W : World) : Prop where
  df : W.heap[B]? = some (.deferred (some []))
  lp : W.heap[B + 1]? = some (.loop r)
theorem RecAt.walk {B : Nat} {r : Loop} {W W' : World} {row : Option Nat} (h : RecAt B r W) (hg : W.grownBy W' row) (hr : ∀ k, row = some k → ∃ o : Obj, W.heap[k]? = some o ∧ o.isWalk = true) : RecAt B r W' :=
  ⟨(grownBy_keeps hg hr h.df rfl).trans h.df, (grownBy_keeps hg hr h.lp rfl).trans h.lp⟩
theorem RecAt.turn {B : Nat} {r r' : Loop} {W : World} (h : RecAt B r W) : RecAt B r' (W.putObj (B + 1) (.loop r')) :=
  ⟨(World.putObj_heap_other (by omega)).trans h.df, World.putObj_heap_same (Array.getElem?_eq_some_iff.1 h.lp).1⟩
theorem RecAt.keeps {B : Nat} {r : Loop} {W W' : World} (h : RecAt B r W) (hk : KeepsOthers W W') : RecAt B r W' := ⟨hk.same _ _ h.df rfl, hk.same _ _ h.lp rfl⟩

section
variable {α : Type} {P : Program} {g : Operand} {ps : Array Tmp} {assign body : Code} {Q : Exit → Act → World → Prop} {a : Act} {w : World} {gf : Nat} {lb : Array Value}
  {encs : α → Array Value} {R : α → World → Prop} {Kp : World → World → Prop} {S Sp : List α → Prop} {N : Nat}
/-- the loop's record -/
abbrev recOf (ps : Array Tmp) (assign body : Code) (a : Act) (w : World) (fn : FuncId) (st : LoopState) (pe : Option Code) : Loop := { state := st, pending := pe, fn, tmps := a.tmps, params := ps, assign, body, defers := w.heap.size }

/-- how a round ends: its record is ready again, or done -/
theorem round_end {fn : FuncId} {W W3 : World} (jump : Option Code) (h : RecAt w.heap.size (recOf ps assign body a w fn .busy none) W) (hk : KeepsOthers W W3) :
    (Instr.endRound (w.heap.size + 1) jump).run P W3 = .ok (.bool jump.isNone) (W3.putObj (w.heap.size + 1) (.loop (recOf ps assign body a w fn (if jump.isNone then .ready else .done) jump))) ∧
      RecAt w.heap.size (recOf ps assign body a w fn .busy none) W3 :=
  ⟨run_endRound (P := P) jump (h.keeps hk).lp, h.keeps hk⟩

theorem range_R (hg : a.eval g = .func (.func gf) #[] lb) (eg : ∀ args w, (callFunc gf args).run P w = .ok (.enter gf args) w)
    (hseq : SeqR 8 P gf lb encs R Kp S Sp N w) (hR : ∀ (x : α) (W : World) (l : Nat) (o o' : Obj), R x W → W.heap[l]? = some o → o.isCells = false → R x (W.putObj l o'))
    (hKt : ∀ {A B C : World}, Kp A B → Kp B C → Kp A C) (hKb : ∀ (W : World) (l : Nat) (o o' : Obj), W.heap[l]? = some o → o.isCells = false → Kp W (W.putObj l o')) (hps : ∀ x, (encs x).size = ps.size)
    (I : List α → World → Prop) (Ix : Code → List α → World → Prop) (hI : OwnFrom w.heap.size I) (hIx : ∀ c, OwnFrom w.heap.size (Ix c)) (h0 : I [] w) (a₁ : α → Act)
    (hassign : ∀ (l : Nat) (x : α) (W : World) (K : Act → World → Prop), K (a₁ x) W →
      assign.wpIn (Fence.wide.inRound l) 7 P (Exit.then K (fun _ _ _ => False)) { tmps := (ps.zip (encs x)).foldl (fun t (p, v) => t.setIfInBounds p v) a.tmps, defers := [] } W)
    (hbody : ∀ (l : Nat) (pre : List α) (x : α) (W : World), I pre W → pre.length < N → R x W → body.wpIn (Fence.wide.inRound l) 7 P (ownPostK Kp I Ix (pre ++ [x]) W) (a₁ x) W)
    (hdone : ∀ (D : Nat) (xs : List α) (W : World), w.heap.size ≤ D → S xs → I xs W → W.heap[D]? = some (.deferred (some [])) → Q .normal { a with defers := { target := .collected D, args := #[] } :: a.defers } W)
    (hstop : ∀ (D : Nat) (c : Code) (pre : List α) (W : World), w.heap.size ≤ D → Sp pre → Ix c pre W → W.heap[D]? = some (.deferred (some [])) → c.wpIn Fence.wide 9 P Q { a with defers := { target := .collected D, args := #[] } :: a.defers } W) :
    (Code.rangeFunc g ps assign body).wpIn Fence.wide 9 P Q a w := by
  refine wpIn_rangeFunc fun fn hfn => ?_
  obtain ⟨W1, hW1⟩ : ∃ W1, (w.alloc (.deferred (some []))).alloc (.loop (recOf ps assign body a w fn .ready none)) = W1 := ⟨_, rfl⟩
  have hs1 : W1.heap.size = w.heap.size + 2 := by rw [← hW1]; simp
  have hb1 : Below w.heap.size w W1 := by rw [← hW1]; exact ((Below.refl _ w).alloc (Nat.le_refl _) _).alloc (by simp) _
  have hrec : RecAt w.heap.size (recOf ps assign body a w fn .ready none) W1 := by
    rw [← hW1]
    refine ⟨(Below.heap_alloc _ _ _ (by simp)).trans (World.alloc_heap_new w _), ?_⟩
    have := World.alloc_heap_new (w.alloc (.deferred (some []))) (.loop (recOf ps assign body a w fn .ready none))
    rwa [World.size_alloc] at this
  have hI1 : I [] W1 := by rw [← hW1]; exact hI.alloc _ (hI.alloc _ h0)
  have far : ∀ {A : World} {row : Option Nat}, (∀ k, row = some k → W1.heap.size ≤ k ∧ ∃ o : Obj, A.heap[k]? = some o ∧ o.isWalk = true) → ∀ k, row = some k → w.heap.size ≤ k ∧ ∃ o : Obj, A.heap[k]? = some o ∧ o.isCells = false := fun hr k e => by
    obtain ⟨h1, o, h2, h3⟩ := hr k e
    exact ⟨by omega, o, h2, Obj.not_cells_of_walk h3⟩
  refine ⟨w.heap.size + 1, [{ target := .collected w.heap.size, args := #[] }], W1, { target := .fn (.func gf) lb, args := #[.func (.yield (w.heap.size + 1)) #[] #[]] }, W1, gf,
    #[.func (.yield (w.heap.size + 1)) #[] #[]] ++ lb, W1, ?_, ?_, fun _ _ => trivial, ?_, fun _ => by omega, ?_⟩
  · rw [← hW1]; exact run_enterLoop_outer _ _ _ _ _
  · simp only [resolve, hg]
    simp [go_sem]
  · simp [invoke, go_sem, eg]
  have call := hseq (w.heap.size + 1) (fun pre W => I pre W ∧ RecAt w.heap.size (recOf ps assign body a w fn .ready none) W)
    (fun pre W => ∃ c, Ix c pre W ∧ RecAt w.heap.size (recOf ps assign body a w fn .done (some c)) W) W1 hb1
    (fun s A B row h hg' hr => ⟨hI s A B row h.1 hg' (far hr), h.2.walk hg' (fun k e => (hr k e).2)⟩)
    (fun s A B row h hg' hr => by
      obtain ⟨c, h1, h2⟩ := h
      exact ⟨c, hIx c s A B row h1 hg' (far hr), h2.walk hg' (fun k e => (hr k e).2)⟩)
  refine (call ?_ ⟨hI1, hrec⟩).mono ?_
  · rintro pre x W ⟨hi, hr⟩ hlen hx
    have hy := run_yield (P := P) (args := encs x) hr.lp (hps x)
    refine ⟨fn, _, assign, body, hy, roundIn_of_wpIn hfn (hassign _ x W _ ⟨_, run_beginRound hr.lp rfl, ?_⟩)⟩
    have hr2 : RecAt w.heap.size (recOf ps assign body a w fn .busy none) (W.putObj (w.heap.size + 1) (.loop (recOf ps assign body a w fn .busy none))) := hr.turn
    refine wpIn_mono (hbody _ pre x _ (hI.putObj _ hi (by omega) hr.lp rfl) hlen (hR x W _ _ _ hx hr.lp rfl)) ?_
    have k1 := hKb W _ _ (.loop (recOf ps assign body a w fn .busy none)) hr.lp rfl
    have left : ∀ (c : Code) (W3 : World), KeepsOthers (W.putObj (w.heap.size + 1) (.loop (recOf ps assign body a w fn .busy none))) W3 → Ix c (pre ++ [x]) W3 →
        (fun e W' => (e = Ending.returned (.bool true) ∧ (I (pre ++ [x]) W' ∧ RecAt w.heap.size (recOf ps assign body a w fn .ready none) W') ∧ Kp W W') ∨ (e = Ending.returned (.bool false) ∧ ∃ c, Ix c (pre ++ [x]) W' ∧ RecAt w.heap.size (recOf ps assign body a w fn .done (some c)) W')) (.returned (.bool false)) (W3.putObj (w.heap.size + 1) (.loop (recOf ps assign body a w fn .done (some c)))) := fun c W3 hk hx3 => by
      have h3 := (round_end (P := P) (some c) hr2 hk).2
      exact .inr ⟨rfl, c, (hIx c).putObj _ hx3 (by omega) h3.lp rfl, h3.turn⟩
    rintro e a3 W3 hp
    cases e with
    | normal =>
      obtain ⟨hk, hkp, hi3⟩ := hp
      obtain ⟨hrun, h3⟩ := round_end (P := P) none hr2 hk
      exact ⟨_, _, hrun, .inl ⟨rfl, ⟨hI.putObj _ hi3 (by omega) h3.lp rfl, h3.turn⟩, hKt (hKt k1 hkp) (hKb W3 _ _ _ h3.lp rfl)⟩⟩
    | ret => exact ⟨_, _, (round_end (P := P) (some .ret) hr2 hp.1).1, left .ret W3 hp.1 hp.2⟩
    | exit id => exact ⟨_, _, (round_end (P := P) (some (.exit id)) hr2 hp.1).1, left (.exit id) W3 hp.1 hp.2⟩
    | goto t => exact ⟨_, _, (round_end (P := P) (some (.goto t)) hr2 hp.1).1, left (.goto t) W3 hp.1 hp.2⟩
    | panic ch => exact hp.elim
    | outgrown => exact hp.elim
  · rintro e W2 ⟨⟨v, rfl⟩, (⟨xs, hS, hi, hr⟩ | ⟨pre, hSp, c, hi, hr⟩)⟩
    · exact ⟨none, _, run_endLoop (P := P) hr.lp (by simp), hdone _ xs _ (Nat.le_refl _) hS (hI.putObj _ hi (by omega) hr.lp rfl) ((World.putObj_heap_other (by omega)).trans hr.df)⟩
    · exact ⟨some c, _, run_endLoop (P := P) hr.lp (by simp), hstop _ c pre _ (Nat.le_refl _) hSp ((hIx c).putObj _ hi (by omega) hr.lp rfl) ((World.putObj_heap_other (by omega)).trans hr.df)⟩
end
end Go.Proofs.Ytodlcfhkiilpgaa
namespace Go.Proofs.Ytodlcfhkiilpgaa
open Go.RowKit

/-- J abides the iterator: boxes of its own, c of them from B on, turn, and memory is made -/
def AbidesE {β : Type} (B c : Nat) (J : β → World → Prop) : Prop :=
  ∀ s W W' row, J s W → W.grownBy W' row → (∀ r, row = some r → B ≤ r ∧ r < B + c) → J s W'
/-- the iterator's promise: it turns nothing but its own boxes; each round is told that they lie there -/
def SeqE {α : Type} (n : Nat) (P : Program) (g : Nat) (lb : Array Value) (encs : α → Array Value) (c : Nat) (Kp : Nat → World → World → Prop) (S Sp : List α → Prop) (N : Nat) (w : World) : Prop :=
  ∀ (l : Nat) (J Jx : List α → World → Prop) (W : World), Below w.heap.size w W → AbidesE W.heap.size c J → AbidesE W.heap.size c Jx →
    (∀ pre x W1, J pre W1 → pre.length < N → W.heap.size + c ≤ W1.heap.size → YieldAt Fence.wide (n - 1) P l (encs x) W1 fun e W' =>
      (e = .returned (.bool true) ∧ J (pre ++ [x]) W' ∧ Kp W.heap.size W1 W') ∨ (e = .returned (.bool false) ∧ Jx (pre ++ [x]) W')) →
    J [] W →
    CallsIn Fence.wide n P g (#[.func (.yield l) #[] #[]] ++ lb) W fun e W' => (∃ v, e = .returned v) ∧ ((∃ xs, S xs ∧ J xs W') ∨ (∃ pre, Sp pre ∧ Jx pre W'))
theorem RecAt.abides {B c : Nat} {r : Loop} {W W' : World} {row : Option Nat} (h : RecAt B r W) (hg : W.grownBy W' row) (hr : ∀ k, row = some k → B + 2 ≤ k ∧ k < B + 2 + c) : RecAt B r W' :=
  ⟨(hg.block _ (Array.getElem?_eq_some_iff.1 h.df).1 (fun e => by have := hr _ e.symm; omega)).trans h.df, (hg.block _ (Array.getElem?_eq_some_iff.1 h.lp).1 (fun e => by have := hr _ e.symm; omega)).trans h.lp⟩
section
variable {α : Type} {P : Program} {g : Operand} {ps : Array Tmp} {assign body : Code} {Q : Exit → Act → World → Prop} {a : Act} {w : World} {gf : Nat} {lb : Array Value}
  {encs : α → Array Value} {c : Nat} {Kp : Nat → World → World → Prop} {S Sp : List α → Prop} {N : Nat}
theorem range_E (hg : a.eval g = .func (.func gf) #[] lb) (eg : ∀ args w, (callFunc gf args).run P w = .ok (.enter gf args) w)
    (hseq : SeqE 8 P gf lb encs c Kp S Sp N w)
    (hKt : ∀ {B : Nat} {X Y Z : World}, Kp B X Y → Kp B Y Z → Kp B X Z) (hKb : ∀ (B : Nat) (W : World) (l : Nat) (o o' : Obj), l < B → W.heap[l]? = some o → o.isCells = false → Kp B W (W.putObj l o')) (hps : ∀ x, (encs x).size = ps.size)
    (I : List α → World → Prop) (Ix : Code → List α → World → Prop) (hI : OwnFrom w.heap.size I) (hIx : ∀ d, OwnFrom w.heap.size (Ix d)) (hIE : AbidesE (w.heap.size + 2) c I) (hIxE : ∀ d, AbidesE (w.heap.size + 2) c (Ix d)) (h0 : I [] w) (a₁ : α → Act)
    (hassign : ∀ (l : Nat) (x : α) (W : World) (K : Act → World → Prop), K (a₁ x) W →
      assign.wpIn (Fence.wide.inRound l) 7 P (Exit.then K (fun _ _ _ => False)) { tmps := (ps.zip (encs x)).foldl (fun t (p, v) => t.setIfInBounds p v) a.tmps, defers := [] } W)
    (hbody : ∀ (l : Nat) (pre : List α) (x : α) (W : World), I pre W → pre.length < N → w.heap.size + 2 + c ≤ W.heap.size → body.wpIn (Fence.wide.inRound l) 7 P (ownPostK (Kp (w.heap.size + 2)) I Ix (pre ++ [x]) W) (a₁ x) W)
    (hdone : ∀ (D : Nat) (xs : List α) (W : World), w.heap.size ≤ D → S xs → I xs W → W.heap[D]? = some (.deferred (some [])) → Q .normal { a with defers := { target := .collected D, args := #[] } :: a.defers } W)
    (hstop : ∀ (D : Nat) (d : Code) (pre : List α) (W : World), w.heap.size ≤ D → Sp pre → Ix d pre W → W.heap[D]? = some (.deferred (some [])) → d.wpIn Fence.wide 9 P Q { a with defers := { target := .collected D, args := #[] } :: a.defers } W) :
    (Code.rangeFunc g ps assign body).wpIn Fence.wide 9 P Q a w := by
  refine wpIn_rangeFunc fun fn hfn => ?_
  obtain ⟨W1, hW1⟩ : ∃ W1, (w.alloc (.deferred (some []))).alloc (.loop (recOf ps assign body a w fn .ready none)) = W1 := ⟨_, rfl⟩
  have hs1 : W1.heap.size = w.heap.size + 2 := by rw [← hW1]; simp
  have hb1 : Below w.heap.size w W1 := by rw [← hW1]; exact ((Below.refl _ w).alloc (Nat.le_refl _) _).alloc (by simp) _
  have hrec : RecAt w.heap.size (recOf ps assign body a w fn .ready none) W1 := by
    rw [← hW1]
    refine ⟨(Below.heap_alloc _ _ _ (by simp)).trans (World.alloc_heap_new w _), ?_⟩
    have := World.alloc_heap_new (w.alloc (.deferred (some []))) (.loop (recOf ps assign body a w fn .ready none))
    rwa [World.size_alloc] at this
  have hI1 : I [] W1 := by rw [← hW1]; exact hI.alloc _ (hI.alloc _ h0)
  refine ⟨w.heap.size + 1, [{ target := .collected w.heap.size, args := #[] }], W1, { target := .fn (.func gf) lb, args := #[.func (.yield (w.heap.size + 1)) #[] #[]] }, W1, gf,
    #[.func (.yield (w.heap.size + 1)) #[] #[]] ++ lb, W1, ?_, ?_, fun _ _ => trivial, ?_, fun _ => by omega, ?_⟩
  · rw [← hW1]; exact run_enterLoop_outer _ _ _ _ _
  · simp only [resolve, hg]
    simp [go_sem]
  · simp [invoke, go_sem, eg]
  have call := hseq (w.heap.size + 1) (fun pre W => I pre W ∧ RecAt w.heap.size (recOf ps assign body a w fn .ready none) W)
    (fun pre W => ∃ d, Ix d pre W ∧ RecAt w.heap.size (recOf ps assign body a w fn .done (some d)) W) W1 hb1
    (fun s A B row h hg' hr => by rw [hs1] at hr; exact ⟨hIE s A B row h.1 hg' hr, h.2.abides hg' hr⟩)
    (fun s A B row h hg' hr => by
      rw [hs1] at hr
      obtain ⟨d, h1, h2⟩ := h
      exact ⟨d, hIxE d s A B row h1 hg' hr, h2.abides hg' hr⟩)
  rw [hs1] at call
  refine (call ?_ ⟨hI1, hrec⟩).mono ?_
  · rintro pre x W ⟨hi, hr⟩ hlen hx
    have hy := run_yield (P := P) (args := encs x) hr.lp (hps x)
    refine ⟨fn, _, assign, body, hy, roundIn_of_wpIn hfn (hassign _ x W _ ⟨_, run_beginRound hr.lp rfl, ?_⟩)⟩
    have hr2 : RecAt w.heap.size (recOf ps assign body a w fn .busy none) (W.putObj (w.heap.size + 1) (.loop (recOf ps assign body a w fn .busy none))) := hr.turn
    refine wpIn_mono (hbody _ pre x _ (hI.putObj _ hi (by omega) hr.lp rfl) hlen (by simpa using hx)) ?_
    have k1 := hKb (w.heap.size + 2) W _ _ (.loop (recOf ps assign body a w fn .busy none)) (by omega) hr.lp rfl
    have left : ∀ (d : Code) (W3 : World), KeepsOthers (W.putObj (w.heap.size + 1) (.loop (recOf ps assign body a w fn .busy none))) W3 → Ix d (pre ++ [x]) W3 →
        (fun e W' => (e = Ending.returned (.bool true) ∧ (I (pre ++ [x]) W' ∧ RecAt w.heap.size (recOf ps assign body a w fn .ready none) W') ∧ Kp (w.heap.size + 2) W W') ∨ (e = Ending.returned (.bool false) ∧ ∃ d, Ix d (pre ++ [x]) W' ∧ RecAt w.heap.size (recOf ps assign body a w fn .done (some d)) W')) (.returned (.bool false)) (W3.putObj (w.heap.size + 1) (.loop (recOf ps assign body a w fn .done (some d)))) := fun d W3 hk hx3 => by
      have h3 := (round_end (P := P) (some d) hr2 hk).2
      exact .inr ⟨rfl, d, (hIx d).putObj _ hx3 (by omega) h3.lp rfl, h3.turn⟩
    rintro e a3 W3 hp
    cases e with
    | normal =>
      obtain ⟨hk, hkp, hi3⟩ := hp
      obtain ⟨hrun, h3⟩ := round_end (P := P) none hr2 hk
      exact ⟨_, _, hrun, .inl ⟨rfl, ⟨hI.putObj _ hi3 (by omega) h3.lp rfl, h3.turn⟩, hKt (hKt k1 hkp) (hKb _ W3 _ _ _ (by omega) h3.lp rfl)⟩⟩
    | ret => exact ⟨_, _, (round_end (P := P) (some .ret) hr2 hp.1).1, left .ret W3 hp.1 hp.2⟩
    | exit id => exact ⟨_, _, (round_end (P := P) (some (.exit id)) hr2 hp.1).1, left (.exit id) W3 hp.1 hp.2⟩
    | goto t => exact ⟨_, _, (round_end (P := P) (some (.goto t)) hr2 hp.1).1, left (.goto t) W3 hp.1 hp.2⟩
    | panic ch => exact hp.elim
    | outgrown => exact hp.elim
  · rintro e W2 ⟨⟨v, rfl⟩, (⟨xs, hS, hi, hr⟩ | ⟨pre, hSp, d, hi, hr⟩)⟩
    · exact ⟨none, _, run_endLoop (P := P) hr.lp (by simp), hdone _ xs _ (Nat.le_refl _) hS (hI.putObj _ hi (by omega) hr.lp rfl) ((World.putObj_heap_other (by omega)).trans hr.df)⟩
    · exact ⟨some d, _, run_endLoop (P := P) hr.lp (by simp), hstop _ d pre _ (Nat.le_refl _) hSp ((hIx d).putObj _ hi (by omega) hr.lp rfl) ((World.putObj_heap_other (by omega)).trans hr.df)⟩
end
end Go.Proofs.Ytodlcfhkiilpgaa
namespace Go.Proofs.Ytodlcfhkiilpgaa
open Go.RowKit Go.Shelf Go.Lib

/-- the node whose kids are shown -/
def srcN (ns : List Nd) (n : Int) : Int := if innN ns n = -1 then n else innN ns n
section
variable {base D : Nat} {v : Value} {qk : Bool} {ns : List Nd}
theorem shown_any (n : Int) (W : World) (h : DocM base D v qk ns W) : Calls Try.prog 51 #[.pointer (some ⟨D, 0, none⟩), .int .i64 n] W fun e W' => e = .returned (atN ns (srcN ns n) Nd.kv (.slice none 0 0)) ∧ W' = W := by
  have KI := Lib.hid (inner_any n W h)
  unfold srcN
  obtain ⟨q, hq⟩ : ∃ q, innN ns n = q := ⟨_, rfl⟩
  rw [hq] at KI ⊢
  clear hq
  by_cases hn : q = -1
  · rw [if_pos hn]
    have e1 : (q != -1) = false := by rw [hn]; rfl
    have KK := Lib.hid (kids_any n W h)
    obtain ⟨A, c, e2, _⟩ := kids_form n h
    rw [e2] at KK ⊢
    clear h hn e2
    go_enter Try.func51, Try.ntmps51
    go_wp2_with fail
    refine KI.out.mono ?_
    rintro e w1 ⟨rfl, rfl⟩
    go_wp2_with fail
    refine KK.out.mono ?_
    rintro e w1 ⟨rfl, rfl⟩
    go_wp2
    go_ret
    exact ⟨rfl, rfl⟩
  · rw [if_neg hn]
    have e1 : (q != -1) = true := by rw [bne_iff_ne]; exact hn
    have KK := Lib.hid (kids_any q W h)
    obtain ⟨A, c, e2, _⟩ := kids_form q h
    rw [e2] at KK ⊢
    clear h hn e2
    go_enter Try.func51, Try.ntmps51
    go_wp2_with fail
    refine KI.out.mono ?_
    rintro e w1 ⟨rfl, rfl⟩
    go_wp2_with fail
    refine KK.out.mono ?_
    rintro e w1 ⟨rfl, rfl⟩
    go_wp2
    go_ret
    exact ⟨rfl, rfl⟩
end
/-- a walk over some kids, with so many left to show: what is shown, how many are left then, whether it came to its end -/
inductive Vis (ns : List Nd) : Nat → List Int → Nat → List (Int × Nat) → Nat → Bool → Prop
  | nil {left d} : Vis ns left [] d [] left true
  | skip {left k ks d o l b} : inN ns k = false → Vis ns left ks d o l b → Vis ns left (k :: ks) d o l b
  | out {k ks d} : inN ns k = true → Vis ns 0 (k :: ks) d [] 0 false
  | stop {left k ks d o l} : inN ns k = true → Vis ns left (kdN ns (srcN ns k)) (d + 1) o l false → Vis ns (left + 1) (k :: ks) d ((k, d) :: o) l false
  | go {left k ks d o l o2 l2 b} : inN ns k = true → Vis ns left (kdN ns (srcN ns k)) (d + 1) o l true → Vis ns l ks d o2 l2 b → Vis ns (left + 1) (k :: ks) d ((k, d) :: o ++ o2) l2 b
theorem Vis.le {ns : List Nd} {left d l : Nat} {ks : List Int} {o : List (Int × Nat)} {b : Bool} (h : Vis ns left ks d o l b) : o.length + l ≤ left := by
  induction h with
  | nil => simp
  | skip _ _ ih => exact ih
  | out _ => simp
  | stop _ _ ih => simp; omega
  | go _ _ _ ih1 ih2 => simp; omega
/-- there is always one -/
theorem Vis.ex (ns : List Nd) : ∀ (left : Nat) (ks : List Int) (d : Nat), ∃ o l b, Vis ns left ks d o l b := by
  intro left
  induction left using Nat.strongRecOn with
  | _ left ih =>
    intro ks
    induction ks with
    | nil => intro d; exact ⟨_, _, _, .nil⟩
    | cons k ks ihk =>
      intro d
      cases hk : inN ns k with
      | false =>
        obtain ⟨o, l, b, h⟩ := ihk d
        exact ⟨o, l, b, .skip hk h⟩
      | true =>
        cases left with
        | zero => exact ⟨_, _, _, .out hk⟩
        | succ m =>
          obtain ⟨o, l, b, h⟩ := ih m (Nat.lt_succ_self m) (kdN ns (srcN ns k)) (d + 1)
          cases b with
          | false => exact ⟨_, _, _, .stop hk h⟩
          | true =>
            have hle := h.le
            obtain ⟨o2, l2, b2, h2⟩ := ih l (by omega) ks d
            exact ⟨_, _, _, .go hk h h2⟩
/-- what the walk reads: the box of the tree, the tree -/
structure SrcD (Bd base D : Nat) (v : Value) (qk : Bool) (ns : List Nd) (W : World) : Prop where
  bd : W.heap[Bd]? = some (.cells #[.pointer (some ⟨D, 0, none⟩)] 23 (0, 0))
  doc : DocM base D v qk ns W
/-- its own three boxes, from E on: the caller's round, how many are left, itself -/
structure VM (Bd base D : Nat) (v : Value) (qk : Bool) (ns : List Nd) (E l left : Nat) (W : World) : Prop where
  src : SrcD Bd base D v qk ns W
  by_ : W.heap[E]? = some (.cells #[.func (.yield l) #[] #[]] 75 (0, 0))
  bl : W.heap[E + 1]? = some (.cells #[.int .i64 left] 3 (0, 0))
  bv : W.heap[E + 2]? = some (.cells #[.func (.func 50) #[] #[.pointer (some ⟨Bd, 0, none⟩), .pointer (some ⟨E + 1, 0, none⟩), .pointer (some ⟨E, 0, none⟩), .pointer (some ⟨E + 2, 0, none⟩)]] 75 (0, 0))
  lt : Bd < E
  dlt : ∀ k, DB D v ns k → k < E
/-- what a round keeps -/
def KpW (Bd base D : Nat) (v : Value) (qk : Bool) (ns : List Nd) (E : Nat) (W W' : World) : Prop :=
  (W.heap.size ≤ W'.heap.size) ∧ (∀ k, E ≤ k → k < E + 3 → k < W.heap.size → W'.heap[k]? = W.heap[k]?) ∧ (SrcD Bd base D v qk ns W → SrcD Bd base D v qk ns W')
section
variable {Bd base D : Nat} {v : Value} {qk : Bool} {ns : List Nd} {E l left : Nat} {W W' : World}
theorem SrcD.keep {S : Nat → Prop} (h : SrcD Bd base D v qk ns W) (hf : Frm S W W') (h0 : ¬ S Bd) (hS : ∀ k, DB D v ns k → ¬ S k) : SrcD Bd base D v qk ns W' :=
  ⟨(hf.block Bd (Array.getElem?_eq_some_iff.1 h.bd).1 h0).trans h.bd, h.doc.keep hf hS⟩
theorem VM.keep {S : Nat → Prop} (h : VM Bd base D v qk ns E l left W) (hf : Frm S W W') (hS : ∀ k, S k → E + 3 ≤ k) : VM Bd base D v qk ns E l left W' := by
  have hlt := h.lt
  have hx : ∀ k, k < E + 3 → k < W.heap.size → W'.heap[k]? = W.heap[k]? := fun k h1 h2 => hf.block k h2 (fun e => by have := hS k e; omega)
  exact ⟨h.src.keep hf (fun e => by have := hS _ e; omega) (fun k hk e => by have := h.dlt k hk; have := hS k e; omega), (hx _ (by omega) (Array.getElem?_eq_some_iff.1 h.by_).1).trans h.by_, (hx _ (by omega) (Array.getElem?_eq_some_iff.1 h.bl).1).trans h.bl, (hx _ (by omega) (Array.getElem?_eq_some_iff.1 h.bv).1).trans h.bv, h.lt, h.dlt⟩
theorem VM.below (h : VM Bd base D v qk ns E l left W) (hb : Below W.heap.size W W') : VM Bd base D v qk ns E l left W' := h.keep (S := fun _ => False) (Frm.below hb) (fun _ e => e.elim)
/-- a round's end -/
theorem VM.round (h : VM Bd base D v qk ns E l left W) (hk : KpW Bd base D v qk ns E W W') : VM Bd base D v qk ns E l left W' := by
  obtain ⟨_, h2, h3⟩ := hk
  have hv := (Array.getElem?_eq_some_iff.1 h.bv).1
  exact ⟨h3 h.src, (h2 _ (by omega) (by omega) (by omega)).trans h.by_, (h2 _ (by omega) (by omega) (by omega)).trans h.bl, (h2 _ (by omega) (by omega) (by omega)).trans h.bv, h.lt, h.dlt⟩
/-- one less is left -/
theorem VM.less {left' : Nat} (h : VM Bd base D v qk ns E l left W) : VM Bd base D v qk ns E l left' (W.setCell ⟨E + 1, 0, none⟩ (.int .i64 left')) := by
  have hF : Frm (fun k => k = E + 1) W (W.setCell ⟨E + 1, 0, none⟩ (.int .i64 left')) := Frm.set _ rfl
  have hlt := h.lt
  have hv := (Array.getElem?_eq_some_iff.1 h.bv).1
  exact ⟨h.src.keep hF (by omega) (fun k hk e => by have := h.dlt k hk; omega), (hF.block _ (by omega) (by omega)).trans h.by_, heap_setCell_same _ _ 0 _ _ _ h.bl, (hF.block _ (by omega) (by omega)).trans h.bv, h.lt, h.dlt⟩
theorem VM.cells (h : VM Bd base D v qk ns E l left W) : W.cell? ⟨Bd, 0, none⟩ = some (.pointer (some ⟨D, 0, none⟩)) ∧ W.cell? ⟨E, 0, none⟩ = some (.func (.yield l) #[] #[]) ∧ W.cell? ⟨E + 1, 0, none⟩ = some (.int .i64 left) ∧ W.frozen? ⟨E + 1, 0, none⟩ = false ∧ W.cell? ⟨E + 2, 0, none⟩ = some (.func (.func 50) #[] #[.pointer (some ⟨Bd, 0, none⟩), .pointer (some ⟨E + 1, 0, none⟩), .pointer (some ⟨E, 0, none⟩), .pointer (some ⟨E + 2, 0, none⟩)]) ∧ E + 3 ≤ W.heap.size := by
  refine ⟨?_, ?_, ?_, ?_, ?_, ?_⟩
  · rw [cell_of_row _ _ _ _ _ _ h.src.bd]; rfl
  · rw [cell_of_row _ _ _ _ _ _ h.by_]; rfl
  · rw [cell_of_row _ _ _ _ _ _ h.bl]; rfl
  · simp [World.frozen?, h.bl]
  · rw [cell_of_row _ _ _ _ _ _ h.bv]; rfl
  · have := (Array.getElem?_eq_some_iff.1 h.bv).1; omega
end
end Go.Proofs.Ytodlcfhkiilpgaa
namespace Go.Proofs.Ytodlcfhkiilpgaa
open Go.RowKit Go.Shelf Go.Lib
attribute [local go_sem] Oper.semAt_some

theorem grown_setCellM (W : World) (p : Addr) (v : Value) : W.grownBy (W.setCell p v) (some p.block) :=
  ⟨rfl, rfl, rfl, by simp [World.setCell], fun k _ hk => Below.heap_setCell W p v k (fun e => hk (by rw [e]))⟩
abbrev encW (x : Int × Nat) : Array Value := #[.int .i64 x.1, .int .i64 x.2]
section
variable {Bd base D : Nat} {v : Value} {qk : Bool} {ns : List Nd} {E : Nat}
set_option maxHeartbeats 4000000 in
theorem visit_in (nn : Nat) (hn : 1 ≤ nn) (l N0 : Nat) (J Jx : List (Int × Nat) → World → Prop) (hJ : AbidesE E 3 J)
    (hY : ∀ pre x W1, J pre W1 → pre.length < N0 → E + 3 ≤ W1.heap.size → YieldAt Fence.wide (nn - 1) Try.prog l (encW x) W1 fun e W' =>
      (e = .returned (.bool true) ∧ J (pre ++ [x]) W' ∧ KpW Bd base D v qk ns E W1 W') ∨ (e = .returned (.bool false) ∧ Jx (pre ++ [x]) W')) :
    ∀ (left : Nat) (n : Int) (d : Nat) (pre o : List (Int × Nat)) (lf : Nat) (b : Bool) (W : World), Vis ns left (kdN ns (srcN ns n)) d o lf b → VM Bd base D v qk ns E l left W → J pre W → pre.length + left < N0 → left ≤ 1000000 → d + left ≤ 2000000 →
      CallsIn Fence.wide nn Try.prog 50 #[.int .i64 n, .int .i64 d, .pointer (some ⟨Bd, 0, none⟩), .pointer (some ⟨E + 1, 0, none⟩), .pointer (some ⟨E, 0, none⟩), .pointer (some ⟨E + 2, 0, none⟩)] W fun e W' =>
        (e = .returned (.bool b) ∧ J (pre ++ o) W' ∧ (b = true → VM Bd base D v qk ns E l lf W')) ∨ (e = .returned (.bool false) ∧ ∃ o', o' <+: o ∧ Jx (pre ++ o') W') := by
  intro left
  induction left using Nat.strongRecOn with
  | _ left ih =>
    intro n d pre o lf b W hvis hvm hj hpl hl6 hd6
    have IH := Lib.hid ih
    have HY := Lib.hid hY
    have HJA := Lib.hid hJ
    have HVIS := Lib.hid hvis
    have HVM := Lib.hid hvm
    have HJ0 := Lib.hid hj
    have KS := shown_any n W hvm.src.doc
    obtain ⟨A, c, e1, hle, hmx, _, _, _⟩ := kids_form (srcN ns n) hvm.src.doc
    rw [e1] at KS
    have HKS := Lib.hid KS
    have HE1 := Lib.hid e1
    obtain ⟨cd, _, _, _, _, _⟩ := hvm.cells
    obtain ⟨K, hK⟩ : ∃ K, kdN ns (srcN ns n) = K := ⟨_, rfl⟩
    rw [hK] at HKS HVIS HE1 hle
    have HK := Lib.hid hK
    unfold maxLen at hmx
    clear ih hY hJ hvis hvm hj KS e1 hK
    refine callsIn_of_wp Try.func50 rfl trivial ?_ rfl
    simp only [Try.ntmps50, List.size_toArray, List.length_cons, List.length_nil, Nat.reduceAdd, Nat.reduceSub, Array.replicate_succ, Array.replicate_zero, List.push_toArray, List.append_toArray, List.nil_append, List.cons_append]
    gi_wp2_with (refine ⟨trivial, ?_⟩; gi_at_call 51; refine (callsIn_wide.2 HKS.out).mono ?_; rintro e w1 ⟨rfl, rfl⟩)
    gi_loopw [15] (fun iv wr => ∃ (i m : Nat) (o1 o2 : List (Int × Nat)), iv = .int .i64 i ∧ i ≤ K.length ∧ Hid (Vis ns m (K.drop i) d o2 lf b) ∧ Hid (o = o1 ++ o2) ∧ Hid (VM Bd base D v qk ns E l m wr) ∧ Hid (J (pre ++ o1) wr) ∧ Hid (o1.length + m ≤ left)) (fun iv _ => K.length - (intOf iv).toNat)
    case atStart => exact ⟨0, left, [], o, rfl, Nat.zero_le _, HVIS, Lib.hid rfl, HVM, Lib.hid (by rw [List.append_nil]; exact HJ0.out), Lib.hid (by simp)⟩
    case round =>
      obtain ⟨i, m, o1, o2, rfl, hi, HV, HO, HM, HJ, HLE⟩ := hrel
      by_cases hlt : i < K.length
      · obtain ⟨k, hk⟩ : ∃ k, K[i]? = some k := ⟨_, List.getElem?_eq_getElem hlt⟩
        have hdr : K.drop i = k :: K.drop (i + 1) := by
          rw [List.drop_eq_getElem_cons hlt]
          rw [List.getElem?_eq_getElem hlt] at hk
          injection hk with hk
          rw [hk]
        have hv := HV.out
        rw [hdr] at hv
        obtain ⟨rest, hrest⟩ : ∃ rest, K.drop (i + 1) = rest := ⟨_, rfl⟩
        rw [hrest] at hv
        have HRS := Lib.hid hrest
        obtain ⟨A', c', e2, _, _, _, hr, _⟩ := kids_form (srcN ns n) HM.out.src.doc
        rw [HE1.out, HK.out] at e2
        rw [HK.out] at hr
        injection e2 with e2 e3 e4
        subst e2
        obtain ⟨bb, off, rfl, hbb, hcell⟩ := hr.pos (by omega)
        have ck := hcell i hlt
        rw [hk] at ck
        have ck : wr.cell? ⟨bb, off + i, none⟩ = some (.int .i64 k) := ck
        have KH := has_any k wr HM.out.src.doc
        obtain ⟨c0, cy, cl, fl, cv, hE3⟩ := HM.out.cells
        have HW := Lib.hid (HM.out.below (below_drewN (Below.refl _ wr) 1))
        clear hr hcell hdr hk e3 e4 hrest HV
        cases hv with
        | skip h1 h2 =>
          rw [h1] at KH
          have HKH := Lib.hid KH
          have H2 := Lib.hid h2
          clear KH h1 h2
          gi_wp2_with (refine ⟨trivial, ?_⟩; gi_at_call 35; refine (callsIn_wide.2 HKH.out).mono ?_; rintro e w2 ⟨rfl, rfl⟩)
          go_roundw
          case rel => exact ⟨i + 1, m, o1, o2, by go_num, by omega, Lib.hid (by rw [HRS.out]; exact H2.out), HO, HM, HJ, HLE⟩
          case measure => simp [intOf]; omega
        | out h1 =>
          rw [h1] at KH
          have HKH := Lib.hid KH
          have HF : Hid (J (pre ++ o) (wr.setCell ⟨E + 1, 0, none⟩ (.int .i64 (-1)))) := Lib.hid (by
            rw [HO.out, List.append_nil]
            exact HJA.out _ _ _ (some (E + 1)) HJ.out (grown_setCellM wr ⟨E + 1, 0, none⟩ _) (fun r e => by cases e; omega))
          clear KH h1
          gi_wp2_with (refine ⟨trivial, ?_⟩; gi_at_call 35; refine (callsIn_wide.2 HKH.out).mono ?_; rintro e w2 ⟨rfl, rfl⟩)
          refine ⟨fun _ e => (by cases e), ?_⟩
          gi_wp2
          go_ret
          exact .inl ⟨rfl, HF.out, fun e => by cases e⟩
        | @stop m2 _ _ _ o3 _ h1 h2 =>
          rw [h1] at KH
          have HKH := Lib.hid KH
          have HM2 := Lib.hid (HM.out.less (left' := m2))
          have HJ2 : Hid (J (pre ++ o1) (wr.setCell ⟨E + 1, 0, none⟩ (.int .i64 m2))) := Lib.hid (HJA.out _ _ _ (some (E + 1)) HJ.out (grown_setCellM wr ⟨E + 1, 0, none⟩ _) (fun r e => by cases e; omega))
          have H2 := Lib.hid h2
          have hlen : o1.length + (m2 + 1) ≤ left := HLE.out
          obtain ⟨fn, tmps, assign, body, hy, hR⟩ := HY.out (pre ++ o1) (k, d) _ HJ2.out (by rw [List.length_append]; omega) (by simpa [World.setCell] using hE3)
          simp only [encW] at hy
          obtain ⟨c02, cy2, cl2, _, _, _⟩ := HM2.out.cells
          have d0 : decide ((m2 : Int) < 0) = false := decide_eq_false (by omega)
          have hsub : ((m2 : Int) + 1) - 1 = (m2 : Int) := by omega
          clear KH h1 h2 HJ
          gi_wp2_with (refine ⟨trivial, ?_⟩; gi_at_call 35; refine (callsIn_wide.2 HKH.out).mono ?_; rintro e w2 ⟨rfl, rfl⟩)
          refine hR.mono ?_
          rintro e W3 (⟨rfl, hj3, hk3⟩ | ⟨rfl, hx3⟩)
          · have HM3 := Lib.hid (HM2.out.round hk3)
            obtain ⟨c03, cy3, cl3, _, cv3, hE33⟩ := HM3.out.cells
            have IHr := IH.out m2 (by omega) k (d + 1) (pre ++ o1 ++ [(k, d)]) o3 _ _ W3 H2.out HM3.out hj3 (by simp; omega) (by omega) (by omega)
            have IHr : CallsIn Fence.wide nn Try.prog 50 #[.int .i64 k, .int .i64 ((d : Int) + 1), .pointer (some ⟨Bd, 0, none⟩), .pointer (some ⟨E + 1, 0, none⟩), .pointer (some ⟨E, 0, none⟩), .pointer (some ⟨E + 2, 0, none⟩)] W3 _ := IHr
            have HIH := Lib.hid IHr
            clear IHr hj3 hk3 hy hR
            gi_wp2_with (refine ⟨trivial, ?_⟩; gi_at_call 50; refine (callsIn_wide.2 (callsIn_wide.1 HIH.out)).mono ?_; rintro e W4 h4; obtain rfl : e = .returned (.bool false) := (by rcases h4 with ⟨h, _⟩ | ⟨h, _⟩ <;> exact h); have H4 := Lib.hid h4; clear h4)
            go_ret
            rcases H4.out with ⟨_, hj4, _⟩ | ⟨_, o', hp, hx4⟩
            · refine .inl ⟨rfl, ?_, fun e => by cases e⟩
              rw [HO.out]
              simpa using hj4
            · refine .inr ⟨rfl, o1 ++ (k, d) :: o', ?_, by simpa using hx4⟩
              rw [HO.out]
              obtain ⟨t, ht⟩ := hp
              exact ⟨t, by rw [← ht]; simp⟩
          · have HX := Lib.hid hx3
            clear hx3 hy hR
            gi_wp2
            refine ⟨fun _ e => (by cases e), ?_⟩
            gi_wp2
            go_ret
            refine .inr ⟨rfl, o1 ++ [(k, d)], ?_, by have := HX.out; rwa [List.append_assoc] at this⟩
            rw [HO.out]
            exact ⟨o3, by simp⟩
        | @go m2 _ _ _ o3 l3 o4 _ _ h1 h2 h3 =>
          rw [h1] at KH
          have HKH := Lib.hid KH
          have HM2 := Lib.hid (HM.out.less (left' := m2))
          have HJ2 : Hid (J (pre ++ o1) (wr.setCell ⟨E + 1, 0, none⟩ (.int .i64 m2))) := Lib.hid (HJA.out _ _ _ (some (E + 1)) HJ.out (grown_setCellM wr ⟨E + 1, 0, none⟩ _) (fun r e => by cases e; omega))
          have H2 := Lib.hid h2
          have H3 := Lib.hid h3
          have hlen : o1.length + (m2 + 1) ≤ left := HLE.out
          obtain ⟨fn, tmps, assign, body, hy, hR⟩ := HY.out (pre ++ o1) (k, d) _ HJ2.out (by rw [List.length_append]; omega) (by simpa [World.setCell] using hE3)
          simp only [encW] at hy
          obtain ⟨c02, cy2, cl2, _, _, _⟩ := HM2.out.cells
          have d0 : decide ((m2 : Int) < 0) = false := decide_eq_false (by omega)
          have hsub : ((m2 : Int) + 1) - 1 = (m2 : Int) := by omega
          clear KH h1 h2 h3 HJ
          gi_wp2_with (refine ⟨trivial, ?_⟩; gi_at_call 35; refine (callsIn_wide.2 HKH.out).mono ?_; rintro e w2 ⟨rfl, rfl⟩)
          refine hR.mono ?_
          rintro e W3 (⟨rfl, hj3, hk3⟩ | ⟨rfl, hx3⟩)
          · have HM3 := Lib.hid (HM2.out.round hk3)
            obtain ⟨c03, cy3, cl3, _, cv3, hE33⟩ := HM3.out.cells
            have IHr := IH.out m2 (by omega) k (d + 1) (pre ++ o1 ++ [(k, d)]) o3 _ _ W3 H2.out HM3.out hj3 (by simp; omega) (by omega) (by omega)
            have IHr : CallsIn Fence.wide nn Try.prog 50 #[.int .i64 k, .int .i64 ((d : Int) + 1), .pointer (some ⟨Bd, 0, none⟩), .pointer (some ⟨E + 1, 0, none⟩), .pointer (some ⟨E, 0, none⟩), .pointer (some ⟨E + 2, 0, none⟩)] W3 _ := IHr
            have HIH := Lib.hid IHr
            clear IHr hj3 hk3 hy hR
            gi_wp2_with (refine ⟨trivial, ?_⟩; gi_at_call 50; refine (callsIn_wide.2 (callsIn_wide.1 HIH.out)).mono ?_; rintro e W4 h4; obtain ⟨r, rfl⟩ : ∃ r, e = .returned (.bool r) := (by rcases h4 with ⟨h, _⟩ | ⟨h, _⟩ <;> exact ⟨_, h⟩); have H4 := Lib.hid h4; clear h4)
            · rename_i hrr
              go_ret
              rcases H4.out with ⟨h, _, _⟩ | ⟨h, o', hp, hx4⟩
              · injection h with h; injection h with h; rw [h] at hrr; cases hrr
              · refine .inr ⟨rfl, o1 ++ (k, d) :: o', ?_, by simpa using hx4⟩
                rw [HO.out]
                obtain ⟨t, ht⟩ := hp
                exact ⟨t ++ o4, by rw [← ht]; simp⟩
            · rename_i hrr
              have hr4 : J (pre ++ o1 ++ [(k, d)] ++ o3) W4 ∧ VM Bd base D v qk ns E l l3 W4 := by
                rcases H4.out with ⟨_, h1, h2⟩ | ⟨h, _⟩
                · exact ⟨h1, h2 trivial⟩
                · injection h with h; injection h with h; rw [h] at hrr; cases hrr
              have hle3 := H2.out.le
              go_roundw
              case rel => exact ⟨i + 1, l3, o1 ++ (k, d) :: o3, o4, by go_num, by omega, Lib.hid (by rw [HRS.out]; exact H3.out), Lib.hid (by rw [HO.out]; simp), Lib.hid hr4.2, Lib.hid (by simpa using hr4.1), Lib.hid (by simp; omega)⟩
              case measure => simp [intOf]; omega
          · have HX := Lib.hid hx3
            clear hx3 hy hR
            gi_wp2
            refine ⟨fun _ e => (by cases e), ?_⟩
            gi_wp2
            go_ret
            refine .inr ⟨rfl, o1 ++ [(k, d)], ?_, by have := HX.out; rwa [List.append_assoc] at this⟩
            rw [HO.out]
            exact ⟨o3 ++ o4, by simp⟩
      · obtain rfl : i = K.length := by omega
        have hv := HV.out
        rw [List.drop_length] at hv
        cases hv with
        | nil =>
          have HF : Hid (J (pre ++ o) wr ∧ VM Bd base D v qk ns E l lf wr) := Lib.hid ⟨by have := HJ.out; rw [HO.out, List.append_nil]; exact this, HM.out⟩
          gi_wp2
          go_ret
          exact .inl ⟨rfl, HF.out.1, HF.out.2⟩
end
end Go.Proofs.Ytodlcfhkiilpgaa
namespace Go.Proofs.Ytodlcfhkiilpgaa
open Go.RowKit Go.Shelf Go.Lib
attribute [local go_sem] Oper.semAt_some

section
variable {Bd Bn base D : Nat} {v : Value} {qk : Bool} {ns : List Nd}
theorem walk_any (D : Nat) (n : Int) (W : World) : Calls Try.prog 19 #[.pointer (some ⟨D, 0, none⟩), .int .i64 n] W fun e W' => e = .returned (.func (.func 48) #[] #[.pointer (some ⟨W.heap.size, 0, none⟩), .pointer (some ⟨W.heap.size + 1, 0, none⟩)]) ∧ W' = (W.alloc (.cells #[.pointer (some ⟨D, 0, none⟩)] 23)).alloc (.cells #[.int .i64 n] 3) := by
  go_enter Try.func19, Try.ntmps19
  go_wp2
  go_ret
  exact ⟨rfl, rfl⟩
theorem iterW_e (nn : Nat) (hn : 1 ≤ nn) (n : Int) (o : List (Int × Nat)) (lf : Nat) (b : Bool) (hvis : Vis ns ns.length (kdN ns (srcN ns n)) 1 o lf b) (hl : ns.length ≤ 1000000) (w : World) (hs : SrcD Bd base D v qk ns w) (hbn : w.heap[Bn]? = some (.cells #[.int .i64 n] 3 (0, 0))) :
    SeqE nn Try.prog 48 #[.pointer (some ⟨Bd, 0, none⟩), .pointer (some ⟨Bn, 0, none⟩)] encW 3 (fun E => KpW Bd base D v qk ns E) (fun xs => xs = o) (fun pre => pre <+: o) (ns.length + 1) w := by
  intro l J Jx W hW hJ hJx hY h0
  obtain ⟨E, hE⟩ : ∃ E, W.heap.size = E := ⟨_, rfl⟩
  rw [hE] at hJ hJx hY
  have hsW : SrcD Bd base D v qk ns W := hs.keep (S := fun _ => False) (Frm.below hW) (fun e => e) (fun _ _ e => e)
  have hnW : W.heap[Bn]? = some (.cells #[.int .i64 n] 3 (0, 0)) := (hW.block Bn (Array.getElem?_eq_some_iff.1 hbn).1).trans hbn
  have hBd : Bd < E := by rw [← hE]; exact (Array.getElem?_eq_some_iff.1 hsW.bd).1
  have hBn : Bn < E := by rw [← hE]; exact (Array.getElem?_eq_some_iff.1 hnW).1
  have hba : Below W.heap.size W (W.alloc (.cells #[.func (.yield l) #[] #[]] 75)) := (Below.refl _ W).alloc (Nat.le_refl _) _
  have KZ := Lib.hid (size_any _ (hsW.doc.below hba))
  have cda : (W.alloc (.cells #[.func (.yield l) #[] #[]] 75)).cell? ⟨Bd, 0, none⟩ = some (.pointer (some ⟨D, 0, none⟩)) := by rw [cell_of_row _ _ _ _ _ _ ((hba.block Bd (by omega)).trans hsW.bd)]; rfl
  obtain ⟨WB, hWB⟩ : ∃ WB, ((W.alloc (.cells #[.func (.yield l) #[] #[]] 75)).alloc (.cells #[.int .i64 ns.length] 3)).alloc (.cells #[.nilFunc] 75) = WB := ⟨_, rfl⟩
  have hbB : Below W.heap.size W WB := by rw [← hWB]; exact (hba.alloc hba.size _).alloc (by simp; omega) _
  have b0 : WB.heap[E]? = some (.cells #[.func (.yield l) #[] #[]] 75 (0, 0)) := by
    rw [← hWB, Below.heap_alloc _ _ _ (by simp; omega), Below.heap_alloc _ _ _ (by simp; omega), ← hE]
    exact heap_alloc_new W _
  have b1 : WB.heap[E + 1]? = some (.cells #[.int .i64 ns.length] 3 (0, 0)) := by
    rw [← hWB, Below.heap_alloc _ _ _ (by simp; omega), ← hE]
    have := heap_alloc_new (W.alloc (.cells #[.func (.yield l) #[] #[]] 75)) (.cells #[.int .i64 ns.length] 3)
    simpa using this
  have b2 : WB.heap[E + 1 + 1]? = some (.cells #[.nilFunc] 75 (0, 0)) := by
    rw [← hWB, ← hE]
    have := heap_alloc_new ((W.alloc (.cells #[.func (.yield l) #[] #[]] 75)).alloc (.cells #[.int .i64 ns.length] 3)) (.cells #[.nilFunc] 75)
    simpa using this
  have cF : WB.cell? ⟨E + 1 + 1, 0, none⟩ = some .nilFunc := by rw [cell_of_row _ _ _ _ _ _ b2]; rfl
  have fF : WB.frozen? ⟨E + 1 + 1, 0, none⟩ = false := by simp [World.frozen?, b2]
  obtain ⟨W4, hW4⟩ : ∃ W4, WB.setCell ⟨E + 1 + 1, 0, none⟩ (.func (.func 50) #[] #[.pointer (some ⟨Bd, 0, none⟩), .pointer (some ⟨E + 1, 0, none⟩), .pointer (some ⟨E, 0, none⟩), .pointer (some ⟨E + 1 + 1, 0, none⟩)]) = W4 := ⟨_, rfl⟩
  have hF4 : Frm (fun k => k = E + 1 + 1) WB W4 := by rw [← hW4]; exact Frm.set _ rfl
  have hzB : WB.heap.size = E + 3 := by rw [← hWB]; simp; omega
  have hvm : VM Bd base D v qk ns E l ns.length W4 := by
    refine ⟨(hsW.keep (S := fun _ => False) (Frm.below hbB) (fun e => e) (fun _ _ e => e)).keep hF4 (by omega) (fun k hk e => by have := (hsW.doc.in_ k hk).2; omega), (hF4.block E (by omega) (by omega)).trans b0, (hF4.block (E + 1) (by omega) (by omega)).trans b1, ?_, hBd, fun k hk => by have := (hsW.doc.in_ k hk).2; omega⟩
    rw [← hW4]
    exact heap_setCell_same _ _ 0 _ _ _ b2
  have hj4 : J [] W4 := by
    have h1 : J [] WB := hJ _ _ _ none h0 ⟨hbB.os, hbB.tape, hbB.output, hbB.size, fun k hk _ => hbB.block k hk⟩ (fun _ e => by cases e)
    refine hJ _ _ _ (some (E + 1 + 1)) h1 ?_ (fun r e => by cases e; omega)
    rw [← hW4]
    exact grown_setCellM WB ⟨E + 1 + 1, 0, none⟩ _
  have hn4 : W4.cell? ⟨Bn, 0, none⟩ = some (.int .i64 n) := by rw [cell_of_row _ _ _ _ _ _ ((hF4.block Bn (by omega) (by omega)).trans ((hbB.block Bn (by omega)).trans hnW))]; rfl
  have cv4 : W4.cell? ⟨E + 1 + 1, 0, none⟩ = some (.func (.func 50) #[] #[.pointer (some ⟨Bd, 0, none⟩), .pointer (some ⟨E + 1, 0, none⟩), .pointer (some ⟨E, 0, none⟩), .pointer (some ⟨E + 1 + 1, 0, none⟩)]) := (hvm.cells).2.2.2.2.1
  have HV := visit_in nn hn l (ns.length + 1) J Jx hJ hY ns.length n 1 [] o lf b W4 hvis hvm hj4 (by simp) hl (by omega)
  simp only [List.nil_append] at HV
  have HV : CallsIn Fence.wide nn Try.prog 50 #[.int .i64 n, .int .i64 1, .pointer (some ⟨Bd, 0, none⟩), .pointer (some ⟨E + 1, 0, none⟩), .pointer (some ⟨E, 0, none⟩), .pointer (some ⟨E + 1 + 1, 0, none⟩)] W4 _ := HV
  have HV := Lib.hid HV
  clear hvis hs hbn hsW hnW hY hJ h0 hba hbB b0 b1 b2 hF4 hvm hj4
  refine callsIn_of_wp Try.func48 rfl trivial ?_ rfl
  simp only [Try.ntmps48, List.size_toArray, List.length_cons, List.length_nil, Nat.reduceAdd, Nat.reduceSub, Array.replicate_succ, Array.replicate_zero, List.push_toArray, List.append_toArray, List.nil_append, List.cons_append]
  gi_wp2_with (first | (refine ⟨trivial, ?_⟩; gi_at_call 49; refine (callsIn_wide.2 KZ.out).mono ?_; rintro e w2 ⟨rfl, rfl⟩) | (refine ⟨trivial, ?_⟩; gi_at_call 50; refine (callsIn_wide.2 (callsIn_wide.1 HV.out)).mono ?_; rintro e W5 h5; obtain ⟨r, rfl⟩ : ∃ r, e = .returned (.bool r) := (by rcases h5 with ⟨h, _⟩ | ⟨h, _⟩ <;> exact ⟨_, h⟩); have H5 := Lib.hid h5; clear h5))
  go_end0
  refine ⟨⟨_, rfl⟩, ?_⟩
  rcases H5.out with ⟨_, h, _⟩ | ⟨_, o', h1, h2⟩
  · exact .inl ⟨_, rfl, h⟩
  · exact .inr ⟨_, h1, h2⟩
end
end Go.Proofs.Ytodlcfhkiilpgaa
namespace Go.Proofs.Ytodlcfhkiilpgaa
open Go.RowKit

theorem sizeBuilder : (Try.prog.info? 98).map (·.size) = some 2 := by kernel_rfl
theorem liesBuilder : liesAt Try.prog Try.prog.depth 98 (2 / Try.prog.cellsOf 98) 0 98 1 = true := by kernel_rfl

set_option maxHeartbeats 1000000 in
set_option maxRecDepth 100000 in
theorem chk_used (b : Nat) (w : World) (h0 : w.cell? ⟨b, 0, none⟩ = some (.pointer (some ⟨b, 0, none⟩))) :
    Calls Try.prog 85 #[.pointer (some ⟨b, 0, none⟩)] w fun e w' => e = .returned (.tuple #[]) ∧ w = w' := by
  obtain ⟨j, hj, _⟩ := Option.map_eq_some_iff.1 sizeBuilder
  go_enter Try.func85, Try.ntmps85
  go_wp2
  rw [Lib.run_neq_ptr_same w _ Try.underlying95 hj]
  go_wp2
  go_end0
  exact ⟨rfl, rfl⟩

set_option maxHeartbeats 1000000 in
set_option maxRecDepth 100000 in
theorem chk_fresh (b : Nat) (w : World) (h0 : w.cell? ⟨b, 0, none⟩ = some (.pointer none)) (hsh : w.shape? b = some (98, 2)) (hfz : w.frozen? ⟨b, 0, none⟩ = false) :
    Calls Try.prog 85 #[.pointer (some ⟨b, 0, none⟩)] w fun e w' => e = .returned (.tuple #[]) ∧ w' = w.setCell ⟨b, 0, none⟩ (.pointer (some ⟨b, 0, none⟩)) := by
  obtain ⟨j, hj, hjs⟩ := Option.map_eq_some_iff.1 sizeBuilder
  go_enter Try.func85, Try.ntmps85
  go_wp2
  rw [Lib.run_to_unsafe w ⟨b, 0, none⟩ Try.underlying95 Try.underlying135 hj (by rw [hjs]; decide) hsh (Nat.zero_lt_succ 1)]
  simp only [Result.andThen]
  rw [Oper.upon_value]
  go_wp2
  rw [run_callFunc_extern Try.func95 (by kernel_rfl) (by kernel_rfl) (by kernel_rfl) (e := Extern.AbiNoEscape.same) (by kernel_rfl)]
  rw [Lib.run_noEscape]
  simp only [Result.andThen]
  rw [Oper.upon_value]
  go_wp2
  rw [Lib.run_from_unsafe w ⟨b, 0, none⟩ Try.underlying135 Try.underlying95 hj hsh liesBuilder]
  simp only [Result.andThen]
  rw [Oper.upon_value]
  go_wp2
  go_end0
  exact ⟨rfl, rfl⟩

theorem chk_any (B b : Nat) (bs : List Value) (w : World) (h : Lib.IsBuilder 98 5 B b bs w) :
    Calls Try.prog 85 #[.pointer (some ⟨b, 0, none⟩)] w fun e w' => e = .returned (.tuple #[]) ∧ (Lib.BuilderAt 98 5 B b (.pointer (some ⟨b, 0, none⟩)) bs w' ∧ Below B w w') := by
  rcases h with h | h
  · refine (chk_fresh b w h.cell0 h.shape h.frozen0).mono ?_
    rintro e w' ⟨rfl, rfl⟩
    exact ⟨rfl, h.used _, (Below.refl B w).setCell (p := ⟨b, 0, none⟩) h.1 _⟩
  · refine (chk_used b w h.cell0).mono ?_
    rintro e w' ⟨rfl, rfl⟩
    exact ⟨rfl, h, Below.refl B _⟩

set_option maxHeartbeats 2000000 in
set_option maxRecDepth 100000 in
theorem writeString_any (B b : Nat) (bs : List Value) (s : ByteArray) (w : World) (h : Lib.IsBuilder 98 5 B b bs w) (hlen : bs.length + s.size ≤ 140737488355328) (hBw : B ≤ w.heap.size) :
    Calls Try.prog 62 #[.pointer (some ⟨b, 0, none⟩), .string s] w fun e w' => e = .returned (.tuple #[.int .i64 s.size, .nilIface]) ∧ (Lib.BuilderAt 98 5 B b (.pointer (some ⟨b, 0, none⟩)) (bs ++ Lib.strCells s) w' ∧ Below B w w') := by
  obtain ⟨i0, hi, hz0, hz1, hz2⟩ := info_parts infoU8
  go_enter Try.func62, Try.ntmps62
  go_wp2_with (go_at_call 85; refine (chk_any B b bs _ h).mono ?_)
  rintro e w1 ⟨rfl, h1, hb1⟩
  obtain ⟨hB, v, hbk, hown, hne⟩ := h1
  have c0 : w1.cell? ⟨b, 0, none⟩ = some (.pointer (some ⟨b, 0, none⟩)) := by rw [Lib.cell_of_heap hbk]; rfl
  have c1 : w1.cell? ⟨b, 1, none⟩ = some v := by rw [Lib.cell_of_heap hbk]; rfl
  go_wp2_with (at_builtin; refine Lib.wpList_append_own_string _ rfl _ _ 96 9 rfl B 5 i0 Try.underlying96 Try.underlying9 hi hz0 hz1 hz2 _ _ _ rfl hown s rfl ?c3 ?c4 ?c5 ?_)
  case c3 => unfold maxLen; omega
  case c4 => omega
  case c5 => have := hb1.size; omega
  intro v' w2 hown' hgrow _
  have hlt : b < w1.heap.size := by
    rcases Nat.lt_or_ge b w1.heap.size with h' | h'
    · exact h'
    · simp [Array.getElem?_eq_none h'] at hbk
  have hb2 : w2.heap[b]? = some (.cells #[.pointer (some ⟨b, 0, none⟩), v] 98 (0, 0)) := by
    rw [hgrow.block b hlt (fun e => hne e.symm)]
    exact hbk
  have d0 : w2.cell? ⟨b, 0, none⟩ = some (.pointer (some ⟨b, 0, none⟩)) := by rw [Lib.cell_of_heap hb2]; rfl
  have d1 : w2.cell? ⟨b, 1, none⟩ = some v := by rw [Lib.cell_of_heap hb2]; rfl
  have f1 : w2.frozen? ⟨b, 1, none⟩ = false := Lib.frozen_of_heap hb2 1
  obtain ⟨ao, n', cap, rfl⟩ : ∃ ao n' cap, v' = .slice ao n' cap := by
    rcases hown'.2 with ⟨hv, _⟩ | ⟨g, cap, cur, hv, _⟩
    · exact ⟨_, _, _, hv⟩
    · exact ⟨_, _, _, hv⟩
  go_wp2
  go_ret2
  refine ⟨rfl, ?_, ?_⟩
  · exact Lib.BuilderAt.put (T := 98) (e := 5) hB hb2 (bs' := bs ++ Lib.strCells s) (by simpa [Lib.strCells_length] using hown') (by decide)
  · exact (hb1.grown hgrow (by have := hb1.size; omega) (fun k hk => (hown.lt k hk).1)).setCell (p := ⟨b, 1, none⟩) hB _

theorem kext : Builder.Extra Try.prog Try.kstring_ren where
  sizeBuilder := by kernel_rfl
  liesBuilder := by kernel_rfl
  t5 := Try.underlying5
  a5 := Try.isAgg5
  z5 := Try.sizeOf5
  v5 := Try.zeroValue5
  infoByte := by kernel_rfl
  cellsByte := by kernel_rfl
  sizeByte := by kernel_rfl
  neB5 := by decide
theorem string_any (B b : Nat) (l : List UInt8) (w : World) (h : Lib.IsBuilder 98 5 B b (Lib.byteCells l) w) (hBw : B ≤ w.heap.size) :
    Calls Try.prog 63 #[.pointer (some ⟨b, 0, none⟩)] w fun e w' => e = .returned (.string ⟨l.toArray⟩) ∧ Below B w w' := Any.Builder_String_any Try.kstring kext B b l w h hBw

end Go.Proofs.Ytodlcfhkiilpgaa
