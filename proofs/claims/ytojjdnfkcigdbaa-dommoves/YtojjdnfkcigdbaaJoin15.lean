/- The contract of Move. A range over an iterator that hands memory of its own to each round: the round is told what lies there (R). A range over an iterator that has boxes of its own, which it turns between two rounds: c of them, laid first of all. Walking a tree: what is shown beneath a node, in which order; what lies in memory meanwhile. -/
import Derived.Test.YtojjdnfkcigdbaaJoin12
import Derived.Test.YtojjdnfkcigdbaaJoin0
import Derived.RangeFuncWrites
import Derived.Test.YtojjdnfkcigdbaaJoin10
namespace Go.Proofs.Ytojjdnfkcigdbaa
open Go.RowKit Go.Shelf Go.Lib
attribute [local go_sem] Oper.semAt_some

section
variable {base D : Nat} {v : Value} {qk : Bool} {ns : List Nd}
def MovePost (base D : Nat) (v : Value) (qk : Bool) (ns : List Nd) (a b : Int) (W : World) (e : Ending) (W' : World) : Prop :=
  ∃ ns' z, ((inN ns a = true ∧ inN ns b = true ∧ a ≠ b ∧ MvR b (kdN ns a) ns ns' z) ∨ ((inN ns a = false ∨ inN ns b = false ∨ a = b) ∧ ns' = ns ∧ z = 1)) ∧ e = .returned (.int .i64 z) ∧ Adds base D v qk ns ns' W W'
set_option maxRecDepth 100000 in
set_option maxHeartbeats 4000000 in
theorem move_any (a b : Int) (W : World) (h : DocM base D v qk ns W) (hl : ns.length ≤ 1000000) (hb : base ≤ W.heap.size) (m : Nat) (hm : ∀ x ∈ ns, x.kids.length ≤ m) (hmm : m + (kdN ns a).length < 1000000) :
    Calls Try.prog 26 #[.pointer (some ⟨D, 0, none⟩), .int .i64 a, .int .i64 b] W (MovePost base D v qk ns a b W) := by
  have KA := Lib.hid (has_any a W h)
  have KB := Lib.hid (has_any b W h)
  have HRF := Lib.hid (Trnd.refl h).adds
  cases ha : inN ns a with
  | false =>
    rw [ha] at KA
    have HP : Hid (MovePost base D v qk ns a b W (.returned (.int .i64 1)) W) := Lib.hid ⟨ns, 1, .inr ⟨.inl ha, rfl, rfl⟩, rfl, HRF.out⟩
    clear h ha KB
    go_enter Try.func26, Try.ntmps26
    go_wp2_with fail
    refine KA.out.mono ?_
    rintro e w1 ⟨rfl, rfl⟩
    go_wp2
    go_ret
    exact HP.out
  | true =>
    cases hbn : inN ns b with
    | false =>
      rw [ha] at KA
      rw [hbn] at KB
      have HP : Hid (MovePost base D v qk ns a b W (.returned (.int .i64 1)) W) := Lib.hid ⟨ns, 1, .inr ⟨.inr (.inl hbn), rfl, rfl⟩, rfl, HRF.out⟩
      clear h ha hbn
      go_enter Try.func26, Try.ntmps26
      go_wp2_with fail
      refine KA.out.mono ?_
      rintro e w1 ⟨rfl, rfl⟩
      go_wp2_with fail
      refine KB.out.mono ?_
      rintro e w1 ⟨rfl, rfl⟩
      go_wp2
      go_ret
      exact HP.out
    | true =>
      by_cases hab : a = b
      · rw [ha] at KA
        rw [hbn] at KB
        have HP : Hid (MovePost base D v qk ns a b W (.returned (.int .i64 1)) W) := Lib.hid ⟨ns, 1, .inr ⟨.inr (.inr hab), rfl, rfl⟩, rfl, HRF.out⟩
        have d1 : (a == b) = true := by rw [beq_iff_eq]; exact hab
        clear h ha hbn hab
        go_enter Try.func26, Try.ntmps26
        go_wp2_with fail
        refine KA.out.mono ?_
        rintro e w1 ⟨rfl, rfl⟩
        go_wp2_with fail
        refine KB.out.mono ?_
        rintro e w1 ⟨rfl, rfl⟩
        go_wp2
        go_ret
        exact HP.out
      · rw [ha] at KA
        rw [hbn] at KB
        have d1 : (a == b) = false := by rw [beq_eq_false_iff_ne]; exact hab
        have KK := Lib.hid (Kids_any a W h (by omega))
        have HD := Lib.hid h
        have HA := Lib.hid ha
        have HBn := Lib.hid hbn
        have HNE := Lib.hid hab
        clear h ha hbn HRF hab
        go_enter Try.func26, Try.ntmps26
        go_wp2_with fail
        refine KA.out.mono ?_
        rintro e w1 ⟨rfl, rfl⟩
        go_wp2_with fail
        refine KB.out.mono ?_
        rintro e w1 ⟨rfl, rfl⟩
        go_wp2_with fail
        refine KK.out.mono ?_
        rintro e w2 ⟨vk, rfl, ho, hb2⟩
        obtain ⟨K, hK⟩ : ∃ K, kdN ns a = K := ⟨_, rfl⟩
        rw [hK] at ho hmm
        obtain ⟨Ak, ck, e7⟩ := own_slice ho
        subst e7
        have HO := Lib.hid ho
        have HB2 := Lib.hid hb2
        have HK := Lib.hid hK
        have HM := Lib.hid hm
        have H2 := Lib.hid (HD.out.below hb2)
        clear ho hb2 hK hm KA KB KK
        go_wp2
        go_loopw [29] (fun iv wr => ∃ (i : Nat) (ns1 : List Nd), iv = .int .i64 i ∧ i ≤ K.length ∧ Hid (∀ ns' z, MvR b (K.drop i) ns1 ns' z → MvR b K ns ns' z) ∧ Hid (Trnd base D v qk ns ns1 w2 wr) ∧ Hid (ns1.length = ns.length) ∧ Hid (∀ x ∈ ns1, x.kids.length ≤ m + i)) (fun iv _ => K.length - (intOf iv).toNat)
        case atStart => exact ⟨0, ns, rfl, Nat.zero_le _, Lib.hid (fun _ _ h => by simpa using h), Lib.hid (Trnd.refl H2.out), Lib.hid rfl, Lib.hid (by simpa using HM.out)⟩
        case round =>
          obtain ⟨i, ns1, rfl, hi, HMV, HT, HL1, HKD⟩ := hrel
          have hor := HT.out.2.1.own HO.out (fun k e hk => by
            have h1 := (HD.out.in_ k hk).2
            have h2 := (HO.out.lt k e).1
            omega)
          have wrap : ∀ ns' z (W' : World), Trnd base D v qk ns ns' w2 W' → MvR b K ns ns' z → MovePost base D v qk ns a b w1 (.returned (.int .i64 z)) W' := by
            intro ns' z W' ht hmv
            refine ⟨ns', z, .inl ⟨HA.out, HBn.out, HNE.out, by rw [HK.out]; exact hmv⟩, rfl, v, ht.1, (Frm.below HB2.out).trans ht.2.1, fun k hk => ?_⟩
            rcases ht.2.2 k hk with h | h
            · exact .inl h
            · exact .inr (Nat.le_trans HB2.out.size h)
          have HW := Lib.hid wrap
          clear wrap
          by_cases hlt : i < K.length
          · obtain ⟨k, hk⟩ : ∃ k, K[i]? = some k := ⟨_, List.getElem?_eq_getElem hlt⟩
            have hdr : K.drop i = k :: K.drop (i + 1) := by
              rw [List.drop_eq_getElem_cons hlt]
              rw [List.getElem?_eq_getElem hlt] at hk
              injection hk with hk
              rw [hk]
            obtain ⟨g, cap, e, hc⟩ : ∃ g cap, Value.slice Ak K.length ck = .slice (some ⟨g, 0, none⟩) K.length cap ∧ wr.cell? ⟨g, i, none⟩ = some (.int .i64 k) := by
              rcases hor.2 with ⟨h1, h0⟩ | ⟨g, cap, cur, e, _⟩
              · omega
              · refine ⟨g, cap, e, ?_⟩
                rw [e] at hor
                have := hor.cellAt i (by omega)
                rw [List.getElem?_map, hk] at this
                simpa using this
            cases e
            have d2 : decide ((i : Int) < (K.length : Int)) = true := decide_eq_true (by omega)
            have hl1 := HL1.out
            have KP := put_any b k (-1) wr HT.out.1 (by omega) (fun x hx => by have := HKD.out x hx; omega)
            obtain ⟨z, hz⟩ : ∃ z, putE ns1 b k (-1) = z := ⟨_, rfl⟩
            unfold PutPost at KP
            rw [hz] at KP
            replace KP := Lib.hid KP
            have HZ := Lib.hid hz
            have HDR := Lib.hid hdr
            clear hdr hk hor hz
            by_cases hz0 : z = 0
            · have d3 : (z != 0) = false := by simp [hz0]
              go_wp2_with fail
              refine KP.out.mono ?_
              rintro e w4 ⟨v1, v2, rfl, ht⟩
              have HT4 := Lib.hid ht
              clear ht
              go_wp2
              refine ⟨⟨i + 1, putP ns1 b k (-1) v1 v2, by go_num, by omega, Lib.hid (fun ns' z' hm' => HMV.out ns' z' (by rw [HDR.out]; exact MvR.go v1 v2 (HZ.out.trans hz0) hm')), Lib.hid (HT.out.trans HT4.out), Lib.hid (by rw [putP_len]; exact HL1.out), Lib.hid (by have := putP_kids (up := b) (n := k) (before := -1) (v1 := v1) (v2 := v2) HKD.out; simpa [Nat.add_assoc] using this)⟩, by simp [intOf]; omega⟩
            · have d3 : (z != 0) = true := by simpa using hz0
              go_wp2_with fail
              refine KP.out.mono ?_
              rintro e w4 ⟨v1, v2, rfl, ht⟩
              have HT4 := Lib.hid ht
              clear ht
              go_wp2
              go_ret
              exact HW.out _ _ _ (HT.out.trans HT4.out) (HMV.out _ _ (by rw [HDR.out, ← HZ.out]; exact MvR.bad v1 v2 (by rw [HZ.out]; exact hz0)))
          · have d2 : decide ((i : Int) < (K.length : Int)) = false := decide_eq_false (by omega)
            clear hor
            go_wp2
            go_ret
            refine HW.out _ _ _ HT.out (HMV.out _ _ ?_)
            rw [List.drop_eq_nil_of_le (by omega)]
            exact MvR.nil
end
end Go.Proofs.Ytojjdnfkcigdbaa
namespace Go.Proofs.Ytojjdnfkcigdbaa
open Go.RowKit

/-- the iterator's promise: whenever it yields x, R x holds -/
def SeqR {α : Type} (n : Nat) (P : Program) (g : Nat) (lb : Array Value) (encs : α → Array Value) (R : α → World → Prop) (Kp : World → World → Prop) (S Sp : List α → Prop) (N : Nat) (w : World) : Prop :=
  ∀ (l : Nat) (J Jx : List α → World → Prop) (W : World), Below w.heap.size w W → AbidesFrom W.heap.size J → AbidesFrom W.heap.size Jx →
    (∀ pre x W1, J pre W1 → pre.length < N → R x W1 → YieldAt Fence.wide (n - 1) P l (encs x) W1 fun e W' =>
      (e = .returned (.bool true) ∧ J (pre ++ [x]) W' ∧ Kp W1 W') ∨ (e = .returned (.bool false) ∧ Jx (pre ++ [x]) W')) →
    J [] W →
    CallsIn Fence.wide n P g (#[.func (.yield l) #[] #[]] ++ lb) W fun e W' => (∃ v, e = .returned v) ∧ ((∃ xs, S xs ∧ J xs W') ∨ (∃ pre, Sp pre ∧ Jx pre W'))

/-- the two blocks of a loop under way: its deferred calls at B, its record behind -/
structure RecAt (B : Nat) (r : Loop) (W : World) : Prop where
  df : W.heap[B]? = some (.deferred (some []))
  lp : W.heap[B + 1]? = some (.loop r)
theorem RecAt.walk {B : Nat} {r : Loop} {W W' : World} {row : Option Nat} (h : RecAt B r W) (hg : W.grownBy W' row) (hr : ∀ k, row = some k → ∃ o : Obj, W.heap[k]? = some o ∧ o.isWalk = true) : RecAt B r W' :=
  ⟨(grownBy_keeps hg hr h.df rfl).trans h.df, (grownBy_keeps hg hr h.lp rfl).trans h.lp⟩
theorem RecAt.turn {B : Nat} {r r' : Loop} {W : World} (h : RecAt B r W) : RecAt B r' (W.putObj (B + 1) (.loop r')) :=
  ⟨(World.putObj_heap_other (by omega)).trans h.df, World.putObj_heap_same (Array.getElem?_eq_some_iff.1 h.lp).1⟩
theorem RecAt.keeps {B : Nat} {r : Loop} {W W' : World} (h : RecAt B r W) (hk : KeepsOthers W W') : RecAt B r W' := ⟨hk.same _ _ h.df rfl, hk.same _ _ h.lp rfl⟩

section
variable {α : Type} {P : Program} {g : Operand} {ps : Array Tmp} {assign body : Code} {Q : Exit → Act → World → Prop} {a : Act} {w : World} {gf : Nat} {lb : Array Value}
  {encs : α → Array Value} {R : α → World → Prop} {Kp : World → World → Prop} {S Sp : List α → Prop} {N : Nat}
/-- the loop's record -/
abbrev recOf (ps : Array Tmp) (assign body : Code) (a : Act) (w : World) (fn : FuncId) (st : LoopState) (pe : Option Code) : Loop := { state := st, pending := pe, fn, tmps := a.tmps, params := ps, assign, body, defers := w.heap.size }

/-- how a round ends: its record is ready again, or done -/
theorem round_end {fn : FuncId} {W W3 : World} (jump : Option Code) (h : RecAt w.heap.size (recOf ps assign body a w fn .busy none) W) (hk : KeepsOthers W W3) :
    (Instr.endRound (w.heap.size + 1) jump).run P W3 = .ok (.bool jump.isNone) (W3.putObj (w.heap.size + 1) (.loop (recOf ps assign body a w fn (if jump.isNone then .ready else .done) jump))) ∧
      RecAt w.heap.size (recOf ps assign body a w fn .busy none) W3 :=
  ⟨run_endRound (P := P) jump (h.keeps hk).lp, h.keeps hk⟩

theorem range_R (hg : a.eval g = .func (.func gf) #[] lb) (eg : ∀ args w, (callFunc gf args).run P w = .ok (.enter gf args) w)
    (hseq : SeqR 8 P gf lb encs R Kp S Sp N w) (hR : ∀ (x : α) (W : World) (l : Nat) (o o' : Obj), R x W → W.heap[l]? = some o → o.isCells = false → R x (W.putObj l o'))
    (hKt : ∀ {A B C : World}, Kp A B → Kp B C → Kp A C) (hKb : ∀ (W : World) (l : Nat) (o o' : Obj), W.heap[l]? = some o → o.isCells = false → Kp W (W.putObj l o')) (hps : ∀ x, (encs x).size = ps.size)
    (I : List α → World → Prop) (Ix : Code → List α → World → Prop) (hI : OwnFrom w.heap.size I) (hIx : ∀ c, OwnFrom w.heap.size (Ix c)) (h0 : I [] w) (a₁ : α → Act)
    (hassign : ∀ (l : Nat) (x : α) (W : World) (K : Act → World → Prop), K (a₁ x) W →
      assign.wpIn (Fence.wide.inRound l) 7 P (Exit.then K (fun _ _ _ => False)) { tmps := (ps.zip (encs x)).foldl (fun t (p, v) => t.setIfInBounds p v) a.tmps, defers := [] } W)
    (hbody : ∀ (l : Nat) (pre : List α) (x : α) (W : World), I pre W → pre.length < N → R x W → body.wpIn (Fence.wide.inRound l) 7 P (ownPostK Kp I Ix (pre ++ [x]) W) (a₁ x) W)
    (hdone : ∀ (D : Nat) (xs : List α) (W : World), w.heap.size ≤ D → S xs → I xs W → W.heap[D]? = some (.deferred (some [])) → Q .normal { a with defers := { target := .collected D, args := #[] } :: a.defers } W)
    (hstop : ∀ (D : Nat) (c : Code) (pre : List α) (W : World), w.heap.size ≤ D → Sp pre → Ix c pre W → W.heap[D]? = some (.deferred (some [])) → c.wpIn Fence.wide 9 P Q { a with defers := { target := .collected D, args := #[] } :: a.defers } W) :
    (Code.rangeFunc g ps assign body).wpIn Fence.wide 9 P Q a w := by
  refine wpIn_rangeFunc fun fn hfn => ?_
  obtain ⟨W1, hW1⟩ : ∃ W1, (w.alloc (.deferred (some []))).alloc (.loop (recOf ps assign body a w fn .ready none)) = W1 := ⟨_, rfl⟩
  have hs1 : W1.heap.size = w.heap.size + 2 := by rw [← hW1]; simp
  have hb1 : Below w.heap.size w W1 := by rw [← hW1]; exact ((Below.refl _ w).alloc (Nat.le_refl _) _).alloc (by simp) _
  have hrec : RecAt w.heap.size (recOf ps assign body a w fn .ready none) W1 := by
    rw [← hW1]
    refine ⟨(Below.heap_alloc _ _ _ (by simp)).trans (World.alloc_heap_new w _), ?_⟩
    have := World.alloc_heap_new (w.alloc (.deferred (some []))) (.loop (recOf ps assign body a w fn .ready none))
    rwa [World.size_alloc] at this
  have hI1 : I [] W1 := by rw [← hW1]; exact hI.alloc _ (hI.alloc _ h0)
  have far : ∀ {A : World} {row : Option Nat}, (∀ k, row = some k → W1.heap.size ≤ k ∧ ∃ o : Obj, A.heap[k]? = some o ∧ o.isWalk = true) → ∀ k, row = some k → w.heap.size ≤ k ∧ ∃ o : Obj, A.heap[k]? = some o ∧ o.isCells = false := fun hr k e => by
    obtain ⟨h1, o, h2, h3⟩ := hr k e
    exact ⟨by omega, o, h2, Obj.not_cells_of_walk h3⟩
  refine ⟨w.heap.size + 1, [{ target := .collected w.heap.size, args := #[] }], W1, { target := .fn (.func gf) lb, args := #[.func (.yield (w.heap.size + 1)) #[] #[]] }, W1, gf,
    #[.func (.yield (w.heap.size + 1)) #[] #[]] ++ lb, W1, ?_, ?_, fun _ _ => trivial, ?_, fun _ => by omega, ?_⟩
  · rw [← hW1]; exact run_enterLoop_outer _ _ _ _ _
  · simp only [resolve, hg]
    simp [go_sem]
  · simp [invoke, go_sem, eg]
  have call := hseq (w.heap.size + 1) (fun pre W => I pre W ∧ RecAt w.heap.size (recOf ps assign body a w fn .ready none) W)
    (fun pre W => ∃ c, Ix c pre W ∧ RecAt w.heap.size (recOf ps assign body a w fn .done (some c)) W) W1 hb1
    (fun s A B row h hg' hr => ⟨hI s A B row h.1 hg' (far hr), h.2.walk hg' (fun k e => (hr k e).2)⟩)
    (fun s A B row h hg' hr => by
      obtain ⟨c, h1, h2⟩ := h
      exact ⟨c, hIx c s A B row h1 hg' (far hr), h2.walk hg' (fun k e => (hr k e).2)⟩)
  refine (call ?_ ⟨hI1, hrec⟩).mono ?_
  · rintro pre x W ⟨hi, hr⟩ hlen hx
    have hy := run_yield (P := P) (args := encs x) hr.lp (hps x)
    refine ⟨fn, _, assign, body, hy, roundIn_of_wpIn hfn (hassign _ x W _ ⟨_, run_beginRound hr.lp rfl, ?_⟩)⟩
    have hr2 : RecAt w.heap.size (recOf ps assign body a w fn .busy none) (W.putObj (w.heap.size + 1) (.loop (recOf ps assign body a w fn .busy none))) := hr.turn
    refine wpIn_mono (hbody _ pre x _ (hI.putObj _ hi (by omega) hr.lp rfl) hlen (hR x W _ _ _ hx hr.lp rfl)) ?_
    have k1 := hKb W _ _ (.loop (recOf ps assign body a w fn .busy none)) hr.lp rfl
    have left : ∀ (c : Code) (W3 : World), KeepsOthers (W.putObj (w.heap.size + 1) (.loop (recOf ps assign body a w fn .busy none))) W3 → Ix c (pre ++ [x]) W3 →
        (fun e W' => (e = Ending.returned (.bool true) ∧ (I (pre ++ [x]) W' ∧ RecAt w.heap.size (recOf ps assign body a w fn .ready none) W') ∧ Kp W W') ∨ (e = Ending.returned (.bool false) ∧ ∃ c, Ix c (pre ++ [x]) W' ∧ RecAt w.heap.size (recOf ps assign body a w fn .done (some c)) W')) (.returned (.bool false)) (W3.putObj (w.heap.size + 1) (.loop (recOf ps assign body a w fn .done (some c)))) := fun c W3 hk hx3 => by
      have h3 := (round_end (P := P) (some c) hr2 hk).2
      exact .inr ⟨rfl, c, (hIx c).putObj _ hx3 (by omega) h3.lp rfl, h3.turn⟩
    rintro e a3 W3 hp
    cases e with
    | normal =>
      obtain ⟨hk, hkp, hi3⟩ := hp
      obtain ⟨hrun, h3⟩ := round_end (P := P) none hr2 hk
      exact ⟨_, _, hrun, .inl ⟨rfl, ⟨hI.putObj _ hi3 (by omega) h3.lp rfl, h3.turn⟩, hKt (hKt k1 hkp) (hKb W3 _ _ _ h3.lp rfl)⟩⟩
    | ret => exact ⟨_, _, (round_end (P := P) (some .ret) hr2 hp.1).1, left .ret W3 hp.1 hp.2⟩
    | exit id => exact ⟨_, _, (round_end (P := P) (some (.exit id)) hr2 hp.1).1, left (.exit id) W3 hp.1 hp.2⟩
    | goto t => exact ⟨_, _, (round_end (P := P) (some (.goto t)) hr2 hp.1).1, left (.goto t) W3 hp.1 hp.2⟩
    | panic ch => exact hp.elim
    | outgrown => exact hp.elim
  · rintro e W2 ⟨⟨v, rfl⟩, (⟨xs, hS, hi, hr⟩ | ⟨pre, hSp, c, hi, hr⟩)⟩
    · exact ⟨none, _, run_endLoop (P := P) hr.lp (by simp), hdone _ xs _ (Nat.le_refl _) hS (hI.putObj _ hi (by omega) hr.lp rfl) ((World.putObj_heap_other (by omega)).trans hr.df)⟩
    · exact ⟨some c, _, run_endLoop (P := P) hr.lp (by simp), hstop _ c pre _ (Nat.le_refl _) hSp ((hIx c).putObj _ hi (by omega) hr.lp rfl) ((World.putObj_heap_other (by omega)).trans hr.df)⟩
end
end Go.Proofs.Ytojjdnfkcigdbaa
namespace Go.Proofs.Ytojjdnfkcigdbaa
open Go.RowKit

/-- J abides the iterator: boxes of its own, c of them from B on, turn, and memory is made -/
def AbidesE {β : Type} (B c : Nat) (J : β → World → Prop) : Prop :=
  ∀ s W W' row, J s W → W.grownBy W' row → (∀ r, row = some r → B ≤ r ∧ r < B + c) → J s W'
/-- the iterator's promise: it turns nothing but its own boxes; each round is told that they lie there -/
def SeqE {α : Type} (n : Nat) (P : Program) (g : Nat) (lb : Array Value) (encs : α → Array Value) (c : Nat) (Kp : Nat → World → World → Prop) (S Sp : List α → Prop) (N : Nat) (w : World) : Prop :=
  ∀ (l : Nat) (J Jx : List α → World → Prop) (W : World), Below w.heap.size w W → AbidesE W.heap.size c J → AbidesE W.heap.size c Jx →
    (∀ pre x W1, J pre W1 → pre.length < N → W.heap.size + c ≤ W1.heap.size → YieldAt Fence.wide (n - 1) P l (encs x) W1 fun e W' =>
      (e = .returned (.bool true) ∧ J (pre ++ [x]) W' ∧ Kp W.heap.size W1 W') ∨ (e = .returned (.bool false) ∧ Jx (pre ++ [x]) W')) →
    J [] W →
    CallsIn Fence.wide n P g (#[.func (.yield l) #[] #[]] ++ lb) W fun e W' => (∃ v, e = .returned v) ∧ ((∃ xs, S xs ∧ J xs W') ∨ (∃ pre, Sp pre ∧ Jx pre W'))
theorem RecAt.abides {B c : Nat} {r : Loop} {W W' : World} {row : Option Nat} (h : RecAt B r W) (hg : W.grownBy W' row) (hr : ∀ k, row = some k → B + 2 ≤ k ∧ k < B + 2 + c) : RecAt B r W' :=
  ⟨(hg.block _ (Array.getElem?_eq_some_iff.1 h.df).1 (fun e => by have := hr _ e.symm; omega)).trans h.df, (hg.block _ (Array.getElem?_eq_some_iff.1 h.lp).1 (fun e => by have := hr _ e.symm; omega)).trans h.lp⟩
section
variable {α : Type} {P : Program} {g : Operand} {ps : Array Tmp} {assign body : Code} {Q : Exit → Act → World → Prop} {a : Act} {w : World} {gf : Nat} {lb : Array Value}
  {encs : α → Array Value} {c : Nat} {Kp : Nat → World → World → Prop} {S Sp : List α → Prop} {N : Nat}
theorem range_E (hg : a.eval g = .func (.func gf) #[] lb) (eg : ∀ args w, (callFunc gf args).run P w = .ok (.enter gf args) w)
    (hseq : SeqE 8 P gf lb encs c Kp S Sp N w)
    (hKt : ∀ {B : Nat} {X Y Z : World}, Kp B X Y → Kp B Y Z → Kp B X Z) (hKb : ∀ (B : Nat) (W : World) (l : Nat) (o o' : Obj), l < B → W.heap[l]? = some o → o.isCells = false → Kp B W (W.putObj l o')) (hps : ∀ x, (encs x).size = ps.size)
    (I : List α → World → Prop) (Ix : Code → List α → World → Prop) (hI : OwnFrom w.heap.size I) (hIx : ∀ d, OwnFrom w.heap.size (Ix d)) (hIE : AbidesE (w.heap.size + 2) c I) (hIxE : ∀ d, AbidesE (w.heap.size + 2) c (Ix d)) (h0 : I [] w) (a₁ : α → Act)
    (hassign : ∀ (l : Nat) (x : α) (W : World) (K : Act → World → Prop), K (a₁ x) W →
      assign.wpIn (Fence.wide.inRound l) 7 P (Exit.then K (fun _ _ _ => False)) { tmps := (ps.zip (encs x)).foldl (fun t (p, v) => t.setIfInBounds p v) a.tmps, defers := [] } W)
    (hbody : ∀ (l : Nat) (pre : List α) (x : α) (W : World), I pre W → pre.length < N → w.heap.size + 2 + c ≤ W.heap.size → body.wpIn (Fence.wide.inRound l) 7 P (ownPostK (Kp (w.heap.size + 2)) I Ix (pre ++ [x]) W) (a₁ x) W)
    (hdone : ∀ (D : Nat) (xs : List α) (W : World), w.heap.size ≤ D → S xs → I xs W → W.heap[D]? = some (.deferred (some [])) → Q .normal { a with defers := { target := .collected D, args := #[] } :: a.defers } W)
    (hstop : ∀ (D : Nat) (d : Code) (pre : List α) (W : World), w.heap.size ≤ D → Sp pre → Ix d pre W → W.heap[D]? = some (.deferred (some [])) → d.wpIn Fence.wide 9 P Q { a with defers := { target := .collected D, args := #[] } :: a.defers } W) :
    (Code.rangeFunc g ps assign body).wpIn Fence.wide 9 P Q a w := by
  refine wpIn_rangeFunc fun fn hfn => ?_
  obtain ⟨W1, hW1⟩ : ∃ W1, (w.alloc (.deferred (some []))).alloc (.loop (recOf ps assign body a w fn .ready none)) = W1 := ⟨_, rfl⟩
  have hs1 : W1.heap.size = w.heap.size + 2 := by rw [← hW1]; simp
  have hb1 : Below w.heap.size w W1 := by rw [← hW1]; exact ((Below.refl _ w).alloc (Nat.le_refl _) _).alloc (by simp) _
  have hrec : RecAt w.heap.size (recOf ps assign body a w fn .ready none) W1 := by
    rw [← hW1]
    refine ⟨(Below.heap_alloc _ _ _ (by simp)).trans (World.alloc_heap_new w _), ?_⟩
    have := World.alloc_heap_new (w.alloc (.deferred (some []))) (.loop (recOf ps assign body a w fn .ready none))
    rwa [World.size_alloc] at this
  have hI1 : I [] W1 := by rw [← hW1]; exact hI.alloc _ (hI.alloc _ h0)
  refine ⟨w.heap.size + 1, [{ target := .collected w.heap.size, args := #[] }], W1, { target := .fn (.func gf) lb, args := #[.func (.yield (w.heap.size + 1)) #[] #[]] }, W1, gf,
    #[.func (.yield (w.heap.size + 1)) #[] #[]] ++ lb, W1, ?_, ?_, fun _ _ => trivial, ?_, fun _ => by omega, ?_⟩
  · rw [← hW1]; exact run_enterLoop_outer _ _ _ _ _
  · simp only [resolve, hg]
    simp [go_sem]
  · simp [invoke, go_sem, eg]
  have call := hseq (w.heap.size + 1) (fun pre W => I pre W ∧ RecAt w.heap.size (recOf ps assign body a w fn .ready none) W)
    (fun pre W => ∃ d, Ix d pre W ∧ RecAt w.heap.size (recOf ps assign body a w fn .done (some d)) W) W1 hb1
    (fun s A B row h hg' hr => by rw [hs1] at hr; exact ⟨hIE s A B row h.1 hg' hr, h.2.abides hg' hr⟩)
    (fun s A B row h hg' hr => by
      rw [hs1] at hr
      obtain ⟨d, h1, h2⟩ := h
      exact ⟨d, hIxE d s A B row h1 hg' hr, h2.abides hg' hr⟩)
  rw [hs1] at call
  refine (call ?_ ⟨hI1, hrec⟩).mono ?_
  · rintro pre x W ⟨hi, hr⟩ hlen hx
    have hy := run_yield (P := P) (args := encs x) hr.lp (hps x)
    refine ⟨fn, _, assign, body, hy, roundIn_of_wpIn hfn (hassign _ x W _ ⟨_, run_beginRound hr.lp rfl, ?_⟩)⟩
    have hr2 : RecAt w.heap.size (recOf ps assign body a w fn .busy none) (W.putObj (w.heap.size + 1) (.loop (recOf ps assign body a w fn .busy none))) := hr.turn
    refine wpIn_mono (hbody _ pre x _ (hI.putObj _ hi (by omega) hr.lp rfl) hlen (by simpa using hx)) ?_
    have k1 := hKb (w.heap.size + 2) W _ _ (.loop (recOf ps assign body a w fn .busy none)) (by omega) hr.lp rfl
    have left : ∀ (d : Code) (W3 : World), KeepsOthers (W.putObj (w.heap.size + 1) (.loop (recOf ps assign body a w fn .busy none))) W3 → Ix d (pre ++ [x]) W3 →
        (fun e W' => (e = Ending.returned (.bool true) ∧ (I (pre ++ [x]) W' ∧ RecAt w.heap.size (recOf ps assign body a w fn .ready none) W') ∧ Kp (w.heap.size + 2) W W') ∨ (e = Ending.returned (.bool false) ∧ ∃ d, Ix d (pre ++ [x]) W' ∧ RecAt w.heap.size (recOf ps assign body a w fn .done (some d)) W')) (.returned (.bool false)) (W3.putObj (w.heap.size + 1) (.loop (recOf ps assign body a w fn .done (some d)))) := fun d W3 hk hx3 => by
      have h3 := (round_end (P := P) (some d) hr2 hk).2
      exact .inr ⟨rfl, d, (hIx d).putObj _ hx3 (by omega) h3.lp rfl, h3.turn⟩
    rintro e a3 W3 hp
    cases e with
    | normal =>
      obtain ⟨hk, hkp, hi3⟩ := hp
      obtain ⟨hrun, h3⟩ := round_end (P := P) none hr2 hk
      exact ⟨_, _, hrun, .inl ⟨rfl, ⟨hI.putObj _ hi3 (by omega) h3.lp rfl, h3.turn⟩, hKt (hKt k1 hkp) (hKb _ W3 _ _ _ (by omega) h3.lp rfl)⟩⟩
    | ret => exact ⟨_, _, (round_end (P := P) (some .ret) hr2 hp.1).1, left .ret W3 hp.1 hp.2⟩
    | exit id => exact ⟨_, _, (round_end (P := P) (some (.exit id)) hr2 hp.1).1, left (.exit id) W3 hp.1 hp.2⟩
    | goto t => exact ⟨_, _, (round_end (P := P) (some (.goto t)) hr2 hp.1).1, left (.goto t) W3 hp.1 hp.2⟩
    | panic ch => exact hp.elim
    | outgrown => exact hp.elim
  · rintro e W2 ⟨⟨v, rfl⟩, (⟨xs, hS, hi, hr⟩ | ⟨pre, hSp, d, hi, hr⟩)⟩
    · exact ⟨none, _, run_endLoop (P := P) hr.lp (by simp), hdone _ xs _ (Nat.le_refl _) hS (hI.putObj _ hi (by omega) hr.lp rfl) ((World.putObj_heap_other (by omega)).trans hr.df)⟩
    · exact ⟨some d, _, run_endLoop (P := P) hr.lp (by simp), hstop _ d pre _ (Nat.le_refl _) hSp ((hIx d).putObj _ hi (by omega) hr.lp rfl) ((World.putObj_heap_other (by omega)).trans hr.df)⟩
end
end Go.Proofs.Ytojjdnfkcigdbaa
namespace Go.Proofs.Ytojjdnfkcigdbaa
open Go.RowKit Go.Shelf Go.Lib

/-- the node whose kids are shown -/
def srcN (ns : List Nd) (n : Int) : Int := if innN ns n = -1 then n else innN ns n
section
variable {base D : Nat} {v : Value} {qk : Bool} {ns : List Nd}
theorem shown_any (n : Int) (W : World) (h : DocM base D v qk ns W) : Calls Try.prog 49 #[.pointer (some ⟨D, 0, none⟩), .int .i64 n] W fun e W' => e = .returned (atN ns (srcN ns n) Nd.kv (.slice none 0 0)) ∧ W' = W := by
  have KI := Lib.hid (inner_any n W h)
  unfold srcN
  obtain ⟨q, hq⟩ : ∃ q, innN ns n = q := ⟨_, rfl⟩
  rw [hq] at KI ⊢
  clear hq
  by_cases hn : q = -1
  · rw [if_pos hn]
    have e1 : (q != -1) = false := by rw [hn]; rfl
    have KK := Lib.hid (kids_any n W h)
    obtain ⟨A, c, e2, _⟩ := kids_form n h
    rw [e2] at KK ⊢
    clear h hn e2
    go_enter Try.func49, Try.ntmps49
    go_wp2_with fail
    refine KI.out.mono ?_
    rintro e w1 ⟨rfl, rfl⟩
    go_wp2_with fail
    refine KK.out.mono ?_
    rintro e w1 ⟨rfl, rfl⟩
    go_wp2
    go_ret
    exact ⟨rfl, rfl⟩
  · rw [if_neg hn]
    have e1 : (q != -1) = true := by rw [bne_iff_ne]; exact hn
    have KK := Lib.hid (kids_any q W h)
    obtain ⟨A, c, e2, _⟩ := kids_form q h
    rw [e2] at KK ⊢
    clear h hn e2
    go_enter Try.func49, Try.ntmps49
    go_wp2_with fail
    refine KI.out.mono ?_
    rintro e w1 ⟨rfl, rfl⟩
    go_wp2_with fail
    refine KK.out.mono ?_
    rintro e w1 ⟨rfl, rfl⟩
    go_wp2
    go_ret
    exact ⟨rfl, rfl⟩
end
/-- a walk over some kids, with so many left to show: what is shown, how many are left then, whether it came to its end -/
inductive Vis (ns : List Nd) : Nat → List Int → Nat → List (Int × Nat) → Nat → Bool → Prop
  | nil {left d} : Vis ns left [] d [] left true
  | skip {left k ks d o l b} : inN ns k = false → Vis ns left ks d o l b → Vis ns left (k :: ks) d o l b
  | out {k ks d} : inN ns k = true → Vis ns 0 (k :: ks) d [] 0 false
  | stop {left k ks d o l} : inN ns k = true → Vis ns left (kdN ns (srcN ns k)) (d + 1) o l false → Vis ns (left + 1) (k :: ks) d ((k, d) :: o) l false
  | go {left k ks d o l o2 l2 b} : inN ns k = true → Vis ns left (kdN ns (srcN ns k)) (d + 1) o l true → Vis ns l ks d o2 l2 b → Vis ns (left + 1) (k :: ks) d ((k, d) :: o ++ o2) l2 b
theorem Vis.le {ns : List Nd} {left d l : Nat} {ks : List Int} {o : List (Int × Nat)} {b : Bool} (h : Vis ns left ks d o l b) : o.length + l ≤ left := by
  induction h with
  | nil => simp
  | skip _ _ ih => exact ih
  | out _ => simp
  | stop _ _ ih => simp; omega
  | go _ _ _ ih1 ih2 => simp; omega
/-- there is always one -/
theorem Vis.ex (ns : List Nd) : ∀ (left : Nat) (ks : List Int) (d : Nat), ∃ o l b, Vis ns left ks d o l b := by
  intro left
  induction left using Nat.strongRecOn with
  | _ left ih =>
    intro ks
    induction ks with
    | nil => intro d; exact ⟨_, _, _, .nil⟩
    | cons k ks ihk =>
      intro d
      cases hk : inN ns k with
      | false =>
        obtain ⟨o, l, b, h⟩ := ihk d
        exact ⟨o, l, b, .skip hk h⟩
      | true =>
        cases left with
        | zero => exact ⟨_, _, _, .out hk⟩
        | succ m =>
          obtain ⟨o, l, b, h⟩ := ih m (Nat.lt_succ_self m) (kdN ns (srcN ns k)) (d + 1)
          cases b with
          | false => exact ⟨_, _, _, .stop hk h⟩
          | true =>
            have hle := h.le
            obtain ⟨o2, l2, b2, h2⟩ := ih l (by omega) ks d
            exact ⟨_, _, _, .go hk h h2⟩
/-- what the walk reads: the box of the tree, the tree -/
structure SrcD (Bd base D : Nat) (v : Value) (qk : Bool) (ns : List Nd) (W : World) : Prop where
  bd : W.heap[Bd]? = some (.cells #[.pointer (some ⟨D, 0, none⟩)] 24 (0, 0))
  doc : DocM base D v qk ns W
/-- its own three boxes, from E on: the caller's round, how many are left, itself -/
structure VM (Bd base D : Nat) (v : Value) (qk : Bool) (ns : List Nd) (E l left : Nat) (W : World) : Prop where
  src : SrcD Bd base D v qk ns W
  by_ : W.heap[E]? = some (.cells #[.func (.yield l) #[] #[]] 87 (0, 0))
  bl : W.heap[E + 1]? = some (.cells #[.int .i64 left] 3 (0, 0))
  bv : W.heap[E + 2]? = some (.cells #[.func (.func 48) #[] #[.pointer (some ⟨Bd, 0, none⟩), .pointer (some ⟨E + 1, 0, none⟩), .pointer (some ⟨E, 0, none⟩), .pointer (some ⟨E + 2, 0, none⟩)]] 87 (0, 0))
  lt : Bd < E
  dlt : ∀ k, DB D v ns k → k < E
/-- what a round keeps -/
def KpW (Bd base D : Nat) (v : Value) (qk : Bool) (ns : List Nd) (E : Nat) (W W' : World) : Prop :=
  (W.heap.size ≤ W'.heap.size) ∧ (∀ k, E ≤ k → k < E + 3 → k < W.heap.size → W'.heap[k]? = W.heap[k]?) ∧ (SrcD Bd base D v qk ns W → SrcD Bd base D v qk ns W')
section
variable {Bd base D : Nat} {v : Value} {qk : Bool} {ns : List Nd} {E l left : Nat} {W W' : World}
theorem SrcD.keep {S : Nat → Prop} (h : SrcD Bd base D v qk ns W) (hf : Frm S W W') (h0 : ¬ S Bd) (hS : ∀ k, DB D v ns k → ¬ S k) : SrcD Bd base D v qk ns W' :=
  ⟨(hf.block Bd (Array.getElem?_eq_some_iff.1 h.bd).1 h0).trans h.bd, h.doc.keep hf hS⟩
theorem VM.keep {S : Nat → Prop} (h : VM Bd base D v qk ns E l left W) (hf : Frm S W W') (hS : ∀ k, S k → E + 3 ≤ k) : VM Bd base D v qk ns E l left W' := by
  have hlt := h.lt
  have hx : ∀ k, k < E + 3 → k < W.heap.size → W'.heap[k]? = W.heap[k]? := fun k h1 h2 => hf.block k h2 (fun e => by have := hS k e; omega)
  exact ⟨h.src.keep hf (fun e => by have := hS _ e; omega) (fun k hk e => by have := h.dlt k hk; have := hS k e; omega), (hx _ (by omega) (Array.getElem?_eq_some_iff.1 h.by_).1).trans h.by_, (hx _ (by omega) (Array.getElem?_eq_some_iff.1 h.bl).1).trans h.bl, (hx _ (by omega) (Array.getElem?_eq_some_iff.1 h.bv).1).trans h.bv, h.lt, h.dlt⟩
theorem VM.below (h : VM Bd base D v qk ns E l left W) (hb : Below W.heap.size W W') : VM Bd base D v qk ns E l left W' := h.keep (S := fun _ => False) (Frm.below hb) (fun _ e => e.elim)
/-- a round's end -/
theorem VM.round (h : VM Bd base D v qk ns E l left W) (hk : KpW Bd base D v qk ns E W W') : VM Bd base D v qk ns E l left W' := by
  obtain ⟨_, h2, h3⟩ := hk
  have hv := (Array.getElem?_eq_some_iff.1 h.bv).1
  exact ⟨h3 h.src, (h2 _ (by omega) (by omega) (by omega)).trans h.by_, (h2 _ (by omega) (by omega) (by omega)).trans h.bl, (h2 _ (by omega) (by omega) (by omega)).trans h.bv, h.lt, h.dlt⟩
/-- one less is left -/
theorem VM.less {left' : Nat} (h : VM Bd base D v qk ns E l left W) : VM Bd base D v qk ns E l left' (W.setCell ⟨E + 1, 0, none⟩ (.int .i64 left')) := by
  have hF : Frm (fun k => k = E + 1) W (W.setCell ⟨E + 1, 0, none⟩ (.int .i64 left')) := Frm.set _ rfl
  have hlt := h.lt
  have hv := (Array.getElem?_eq_some_iff.1 h.bv).1
  exact ⟨h.src.keep hF (by omega) (fun k hk e => by have := h.dlt k hk; omega), (hF.block _ (by omega) (by omega)).trans h.by_, heap_setCell_same _ _ 0 _ _ _ h.bl, (hF.block _ (by omega) (by omega)).trans h.bv, h.lt, h.dlt⟩
theorem VM.cells (h : VM Bd base D v qk ns E l left W) : W.cell? ⟨Bd, 0, none⟩ = some (.pointer (some ⟨D, 0, none⟩)) ∧ W.cell? ⟨E, 0, none⟩ = some (.func (.yield l) #[] #[]) ∧ W.cell? ⟨E + 1, 0, none⟩ = some (.int .i64 left) ∧ W.frozen? ⟨E + 1, 0, none⟩ = false ∧ W.cell? ⟨E + 2, 0, none⟩ = some (.func (.func 48) #[] #[.pointer (some ⟨Bd, 0, none⟩), .pointer (some ⟨E + 1, 0, none⟩), .pointer (some ⟨E, 0, none⟩), .pointer (some ⟨E + 2, 0, none⟩)]) ∧ E + 3 ≤ W.heap.size := by
  refine ⟨?_, ?_, ?_, ?_, ?_, ?_⟩
  · rw [cell_of_row _ _ _ _ _ _ h.src.bd]; rfl
  · rw [cell_of_row _ _ _ _ _ _ h.by_]; rfl
  · rw [cell_of_row _ _ _ _ _ _ h.bl]; rfl
  · simp [World.frozen?, h.bl]
  · rw [cell_of_row _ _ _ _ _ _ h.bv]; rfl
  · have := (Array.getElem?_eq_some_iff.1 h.bv).1; omega
end
end Go.Proofs.Ytojjdnfkcigdbaa
