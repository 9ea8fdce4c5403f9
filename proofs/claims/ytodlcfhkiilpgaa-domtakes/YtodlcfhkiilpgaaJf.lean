/- Find: an iterator that ranges over an iterator; no round of the caller's leaves. -/
import Derived.Test.YtodlcfhkiilpgaaJg
namespace Go.Proofs.Ytodlcfhkiilpgaa
open Go.RowKit Go.Shelf Go.Lib
attribute [local go_sem] Oper.semAt_some

/-- what a round gives back -/
def postT {α : Type} (B : Nat) (Kp : World → World → Prop) (I : List α → World → Prop) (xs : List α) (W : World) : Exit → Act → World → Prop
  | .normal, _, W' => (W'.heap[B]? = W.heap[B]? ∧ W'.heap[B + 1]? = W.heap[B + 1]?) ∧ Kp W W' ∧ I xs W'
  | _, _, _ => False
theorem AbidesE.alloc {β : Type} {B c : Nat} {J : β → World → Prop} (h : AbidesE B c J) {s : β} {W : World} (o : Obj) (hj : J s W) : J s (W.alloc o) :=
  h s W _ none hj ⟨rfl, rfl, rfl, by simp, fun k hk _ => Below.heap_alloc W o k hk⟩ (fun _ e => by cases e)
section
variable {α : Type} {P : Program} {g : Operand} {ps : Array Tmp} {assign body : Code} {Q : Exit → Act → World → Prop} {a : Act} {w : World} {gf : Nat} {lb : Array Value}
  {encs : α → Array Value} {c : Nat} {Kp : Nat → World → World → Prop} {O : List α}
theorem range_T (hg : a.eval g = .func (.func gf) #[] lb) (eg : ∀ args w, (callFunc gf args).run P w = .ok (.enter gf args) w)
    (hseq : SeqT 8 P gf lb encs c Kp O w)
    (hKt : ∀ {B : Nat} {X Y Z : World}, Kp B X Y → Kp B Y Z → Kp B X Z) (hKb : ∀ (B : Nat) (W : World) (l : Nat) (o o' : Obj), l < B → W.heap[l]? = some o → o.isCells = false → Kp B W (W.putObj l o')) (hps : ∀ x, (encs x).size = ps.size)
    (I : List α → World → Prop) (hI : AbidesE w.heap.size (2 + c) I) (h0 : I [] w) (a₁ : α → Act)
    (hassign : ∀ (l : Nat) (x : α) (W : World) (K : Act → World → Prop), K (a₁ x) W →
      assign.wpIn (Fence.wide.inRound l) 7 P (Exit.then K (fun _ _ _ => False)) { tmps := (ps.zip (encs x)).foldl (fun t (p, v) => t.setIfInBounds p v) a.tmps, defers := [] } W)
    (hbody : ∀ (l : Nat) (pre : List α) (x : α) (W : World), I pre W → (pre ++ [x]) <+: O → w.heap.size + 2 + c ≤ W.heap.size → body.wpIn (Fence.wide.inRound l) 7 P (postT w.heap.size (Kp (w.heap.size + 2)) I (pre ++ [x]) W) (a₁ x) W)
    (hdone : ∀ (D : Nat) (W : World), D = w.heap.size → I O W → W.heap[D]? = some (.deferred (some [])) → Q .normal { a with defers := { target := .collected D, args := #[] } :: a.defers } W) :
    (Code.rangeFunc g ps assign body).wpIn Fence.wide 9 P Q a w := by
  refine wpIn_rangeFunc fun fn hfn => ?_
  obtain ⟨W1, hW1⟩ : ∃ W1, (w.alloc (.deferred (some []))).alloc (.loop (recOf ps assign body a w fn .ready none)) = W1 := ⟨_, rfl⟩
  have hs1 : W1.heap.size = w.heap.size + 2 := by rw [← hW1]; simp
  have hb1 : Below w.heap.size w W1 := by rw [← hW1]; exact ((Below.refl _ w).alloc (Nat.le_refl _) _).alloc (by simp) _
  have hrec : RecAt w.heap.size (recOf ps assign body a w fn .ready none) W1 := by
    rw [← hW1]
    refine ⟨(Below.heap_alloc _ _ _ (by simp)).trans (World.alloc_heap_new w _), ?_⟩
    have := World.alloc_heap_new (w.alloc (.deferred (some []))) (.loop (recOf ps assign body a w fn .ready none))
    rwa [World.size_alloc] at this
  have hI1 : I [] W1 := by rw [← hW1]; exact hI.alloc _ (hI.alloc _ h0)
  have put : ∀ {s : List α} {W : World} (o' : Obj), I s W → I s (W.putObj (w.heap.size + 1) o') := fun o' h => hI _ _ _ (some (w.heap.size + 1)) h (grownBy_putObj' _ _ o') (fun r e => by cases e; omega)
  refine ⟨w.heap.size + 1, [{ target := .collected w.heap.size, args := #[] }], W1, { target := .fn (.func gf) lb, args := #[.func (.yield (w.heap.size + 1)) #[] #[]] }, W1, gf,
    #[.func (.yield (w.heap.size + 1)) #[] #[]] ++ lb, W1, ?_, ?_, fun _ _ => trivial, ?_, fun _ => by omega, ?_⟩
  · rw [← hW1]; exact run_enterLoop_outer _ _ _ _ _
  · simp only [resolve, hg]
    simp [go_sem]
  · simp [invoke, go_sem, eg]
  have call := hseq (w.heap.size + 1) (fun pre W => I pre W ∧ RecAt w.heap.size (recOf ps assign body a w fn .ready none) W) W1 hb1
    (fun s A B row h hg' hr => by rw [hs1] at hr; exact ⟨hI s A B row h.1 hg' (fun r e => by have := hr r e; omega), h.2.abides hg' hr⟩)
  rw [hs1] at call
  refine (call ?_ ⟨hI1, hrec⟩).mono ?_
  · rintro pre x W ⟨hi, hr⟩ hlen hx
    have hy := run_yield (P := P) (args := encs x) hr.lp (hps x)
    refine ⟨fn, _, assign, body, hy, roundIn_of_wpIn hfn (hassign _ x W _ ⟨_, run_beginRound hr.lp rfl, ?_⟩)⟩
    have hr2 : RecAt w.heap.size (recOf ps assign body a w fn .busy none) (W.putObj (w.heap.size + 1) (.loop (recOf ps assign body a w fn .busy none))) := hr.turn
    refine wpIn_mono (hbody _ pre x _ (put _ hi) hlen (by simpa using hx)) ?_
    have k1 := hKb (w.heap.size + 2) W _ _ (.loop (recOf ps assign body a w fn .busy none)) (by omega) hr.lp rfl
    rintro e a3 W3 hp
    cases e with
    | normal =>
      obtain ⟨⟨q1, q2⟩, hkp, hi3⟩ := hp
      have h3 : RecAt w.heap.size (recOf ps assign body a w fn .busy none) W3 := ⟨q1.trans hr2.df, q2.trans hr2.lp⟩
      have hrun := run_endRound (P := P) none h3.lp
      exact ⟨_, _, hrun, rfl, ⟨put _ hi3, h3.turn⟩, hKt (hKt k1 hkp) (hKb _ W3 _ _ _ (by omega) h3.lp rfl)⟩
    | ret => exact hp.elim
    | exit id => exact hp.elim
    | goto t => exact hp.elim
    | panic ch => exact hp.elim
    | outgrown => exact hp.elim
  · rintro e W2 ⟨⟨v, rfl⟩, hi, hr⟩
    exact ⟨none, _, run_endLoop (P := P) hr.lp (by simp), hdone _ _ rfl (put _ hi) ((World.putObj_heap_other (by omega)).trans hr.df)⟩
end
theorem RoundIn.deep {m m' l2 : Nat} {P : Program} {l : Nat} {f : FuncId} {tmps : Array Value} {assign body : Code} {w : World} {R : Ending → World → Prop} (h : RoundIn Fence.wide m P l f tmps assign body w R) : RoundIn (Fence.wide.inRound l2) m' P l f tmps assign body w R :=
  ⟨h.1, fun c cs _ => h.2 c cs (room_wide _)⟩
theorem KpW.tr {Bd base D : Nat} {v : Value} {qk : Bool} {ns : List Nd} {B : Nat} {X Y Z : World} (h1 : KpW Bd base D v qk ns B X Y) (h2 : KpW Bd base D v qk ns B Y Z) : KpW Bd base D v qk ns B X Z :=
  ⟨Nat.le_trans h1.1 h2.1, fun k a1 a2 a3 => (h2.2.1 k a1 a2 (Nat.lt_of_lt_of_le a3 h1.1)).trans (h1.2.1 k a1 a2 a3), fun hs => h2.2.2 (h1.2.2 hs)⟩
theorem KpW.put {Bd base D : Nat} {v : Value} {qk : Bool} {ns : List Nd} (B : Nat) (W : World) (l : Nat) (o o' : Obj) (hlB : l < B) (hlo : W.heap[l]? = some o) (hoc : o.isCells = false) : KpW Bd base D v qk ns B W (W.putObj l o') :=
  ⟨by simp, fun k a1 a2 a3 => World.putObj_heap_other (by omega), fun hs => hs.keep (S := fun k => k = l) (Frm.grown (grownBy_putObj' W l o') (fun k e => by cases e; rfl)) (fun e => by
      have := hs.bd
      rw [e, hlo] at this
      cases this
      cases hoc) (fun k hk e => by
      subst e
      obtain ⟨cur, t, h2⟩ := hs.doc.isCells k hk
      rw [hlo] at h2
      cases h2
      cases hoc)⟩
abbrev enc1 (x : Int) : Array Value := #[.int .i64 x]
section
variable {Bd Bn Bm base D : Nat} {v : Value} {qk : Bool} {ns : List Nd} {name : ByteArray}
/-- those of a name among what a walk shows -/
def fnd (ns : List Nd) (name : ByteArray) (o : List (Int × Nat)) : List Int := (o.map Prod.fst).filter (fun k => isN ns k [name])
theorem fnd_snoc (o : List (Int × Nat)) (k : Int) (d : Nat) : fnd ns name (o ++ [(k, d)]) = if isN ns k [name] then fnd ns name o ++ [k] else fnd ns name o := by
  unfold fnd
  rw [List.map_append, List.filter_append]
  show _ ++ List.filter _ [k] = _
  simp only [List.filter_cons, List.filter_nil]
  cases isN ns k [name] <;> simp
theorem fnd_le (o : List (Int × Nat)) : (fnd ns name o).length ≤ o.length := by
  unfold fnd
  have := List.length_filter_le (fun k => isN ns k [name]) (o.map Prod.fst)
  rw [List.length_map] at this
  exact this
/-- what Find's iterator reads -/
structure SrcF (Bd Bm base D : Nat) (v : Value) (qk : Bool) (ns : List Nd) (name : ByteArray) (W : World) : Prop where
  bd : W.heap[Bd]? = some (.cells #[.pointer (some ⟨D, 0, none⟩)] 23 (0, 0))
  bm : W.heap[Bm]? = some (.cells #[.string name] 9 (0, 0))
  doc : DocM base D v qk ns W
theorem SrcF.keep {S : Nat → Prop} {W W' : World} (h : SrcF Bd Bm base D v qk ns name W) (hf : Frm S W W') (h0 : ¬ S Bd) (h1 : ¬ S Bm) (hS : ∀ k, DB D v ns k → ¬ S k) : SrcF Bd Bm base D v qk ns name W' :=
  ⟨(hf.block Bd (Array.getElem?_eq_some_iff.1 h.bd).1 h0).trans h.bd, (hf.block Bm (Array.getElem?_eq_some_iff.1 h.bm).1 h1).trans h.bm, h.doc.keep hf hS⟩
/-- what a round keeps -/
def KpF (Bd Bm base D : Nat) (v : Value) (qk : Bool) (ns : List Nd) (name : ByteArray) (E : Nat) (W W' : World) : Prop :=
  (W.heap.size ≤ W'.heap.size) ∧ (∀ k, E ≤ k → k < E + 8 → k < W.heap.size → W'.heap[k]? = W.heap[k]?) ∧ (SrcF Bd Bm base D v qk ns name W → SrcF Bd Bm base D v qk ns name W')
/-- what lies there while Find's iterator runs -/
structure FI (Bd Bm base D : Nat) (v : Value) (qk : Bool) (ns : List Nd) (name : ByteArray) (E l : Nat) (W : World) : Prop where
  src : SrcF Bd Bm base D v qk ns name W
  by_ : W.heap[E]? = some (.cells #[.func (.yield l) #[] #[]] 43 (0, 0))
  bw : W.heap[E + 1]? = some (.cells #[.pointer (some ⟨D, 0, none⟩)] 23 (0, 0))
  ltd : Bd < E
  ltm : Bm < E
  dlt : ∀ k, DB D v ns k → k < E
theorem FI.keep {S : Nat → Prop} {E l : Nat} {W W' : World} (h : FI Bd Bm base D v qk ns name E l W) (hf : Frm S W W') (hS : ∀ k, S k → E + 2 ≤ k) : FI Bd Bm base D v qk ns name E l W' := by
  have h1 := h.ltd
  have h2 := h.ltm
  refine ⟨h.src.keep hf (fun e => by have := hS _ e; omega) (fun e => by have := hS _ e; omega) (fun k hk e => by have := hS _ e; have := h.dlt k hk; omega), (hf.block E (Array.getElem?_eq_some_iff.1 h.by_).1 (fun e => by have := hS _ e; omega)).trans h.by_, (hf.block (E + 1) (Array.getElem?_eq_some_iff.1 h.bw).1 (fun e => by have := hS _ e; omega)).trans h.bw, h1, h2, h.dlt⟩
theorem FI.kp {E l : Nat} {W W' : World} (h : FI Bd Bm base D v qk ns name E l W) (hk : KpF Bd Bm base D v qk ns name E W W') : FI Bd Bm base D v qk ns name E l W' := by
  obtain ⟨h1, h2, h3⟩ := hk
  have e0 := (Array.getElem?_eq_some_iff.1 h.by_).1
  have e1 := (Array.getElem?_eq_some_iff.1 h.bw).1
  exact ⟨h3 h.src, (h2 E (by omega) (by omega) e0).trans h.by_, (h2 (E + 1) (by omega) (by omega) e1).trans h.bw, h.ltd, h.ltm, h.dlt⟩
theorem FI.turn {E l : Nat} {W5 W6 : World} {o : Obj} (h : FI Bd Bm base D v qk ns name E l (W5.alloc o)) (hs : E + 8 ≤ W5.heap.size) (hk : KpF Bd Bm base D v qk ns name E (W5.alloc o) W6) :
    (W6.heap[E + 3]? = W5.heap[E + 3]? ∧ W6.heap[E + 3 + 1]? = W5.heap[E + 3 + 1]?) ∧ KpW (E + 1) base D v qk ns (E + 3 + 2) W5 W6 ∧ FI Bd Bm base D v qk ns name E l W6 := by
  have h6 := h.kp hk
  have hb : ∀ k, E ≤ k → k < E + 8 → W6.heap[k]? = W5.heap[k]? := fun k a1 a2 => (hk.2.1 k a1 a2 (by rw [World.size_alloc]; omega)).trans (Below.heap_alloc W5 o k (by omega))
  have h1 := hk.1
  rw [World.size_alloc] at h1
  exact ⟨⟨hb _ (by omega) (by omega), hb _ (by omega) (by omega)⟩, ⟨by omega, fun k a1 a2 _ => hb k (by omega) (by omega), fun _ => ⟨h6.bw, h6.src.doc⟩⟩, h6⟩
theorem find_any (D : Nat) (n : Int) (name : ByteArray) (W : World) : Calls Try.prog 28 #[.pointer (some ⟨D, 0, none⟩), .int .i64 n, .string name] W fun e W' => e = .returned (.func (.func 64) #[] #[.pointer (some ⟨W.heap.size, 0, none⟩), .pointer (some ⟨W.heap.size + 1, 0, none⟩), .pointer (some ⟨W.heap.size + 2, 0, none⟩)]) ∧ W' = ((W.alloc (.cells #[.pointer (some ⟨D, 0, none⟩)] 23)).alloc (.cells #[.int .i64 n] 3)).alloc (.cells #[.string name] 9) := by
  go_enter Try.func28, Try.ntmps28
  go_wp2
  go_ret
  exact ⟨rfl, rfl⟩
set_option maxRecDepth 100000 in
set_option maxHeartbeats 4000000 in
theorem findW_t (n : Int) (o : List (Int × Nat)) (lf : Nat) (b : Bool) (hvis : Vis ns ns.length (kdN ns (srcN ns n)) 1 o lf b) (hl : ns.length ≤ 1000000) (w : World) (hs : SrcF Bd Bm base D v qk ns name w) (hbn : w.heap[Bn]? = some (.cells #[.int .i64 n] 3 (0, 0))) :
    SeqT 8 Try.prog 64 #[.pointer (some ⟨Bd, 0, none⟩), .pointer (some ⟨Bn, 0, none⟩), .pointer (some ⟨Bm, 0, none⟩)] enc1 8 (fun E => KpF Bd Bm base D v qk ns name E) (fnd ns name o) w := by
  intro l J W hW hJ hY h0
  obtain ⟨E, hE⟩ : ∃ E, W.heap.size = E := ⟨_, rfl⟩
  rw [hE] at hJ hY
  have hsW : SrcF Bd Bm base D v qk ns name W := hs.keep (S := fun _ => False) (Frm.below hW) (fun e => e) (fun e => e) (fun _ _ e => e)
  have hnW : W.heap[Bn]? = some (.cells #[.int .i64 n] 3 (0, 0)) := (hW.block Bn (Array.getElem?_eq_some_iff.1 hbn).1).trans hbn
  have hBd : Bd < E := by rw [← hE]; exact (Array.getElem?_eq_some_iff.1 hsW.bd).1
  have hBm : Bm < E := by rw [← hE]; exact (Array.getElem?_eq_some_iff.1 hsW.bm).1
  have hBn : Bn < E := by rw [← hE]; exact (Array.getElem?_eq_some_iff.1 hnW).1
  have hba : Below W.heap.size W (W.alloc (.cells #[.func (.yield l) #[] #[]] 43)) := (Below.refl _ W).alloc (Nat.le_refl _) _
  have cda : (W.alloc (.cells #[.func (.yield l) #[] #[]] 43)).cell? ⟨Bd, 0, none⟩ = some (.pointer (some ⟨D, 0, none⟩)) := by rw [cell_of_row _ _ _ _ _ _ ((hba.block Bd (by omega)).trans hsW.bd)]; rfl
  have cna : (W.alloc (.cells #[.func (.yield l) #[] #[]] 43)).cell? ⟨Bn, 0, none⟩ = some (.int .i64 n) := by rw [cell_of_row _ _ _ _ _ _ ((hba.block Bn (by omega)).trans hnW)]; rfl
  have KW := Lib.hid (walk_any D n (W.alloc (.cells #[.func (.yield l) #[] #[]] 43)))
  obtain ⟨W4, hW4⟩ : ∃ W4, ((W.alloc (.cells #[.func (.yield l) #[] #[]] 43)).alloc (.cells #[.pointer (some ⟨D, 0, none⟩)] 23)).alloc (.cells #[.int .i64 n] 3) = W4 := ⟨_, rfl⟩
  have hb4 : Below W.heap.size W W4 := by rw [← hW4]; exact (hba.alloc hba.size _).alloc (by simp; omega) _
  have b0 : W4.heap[E]? = some (.cells #[.func (.yield l) #[] #[]] 43 (0, 0)) := by
    rw [← hW4, Below.heap_alloc _ _ _ (by simp; omega), Below.heap_alloc _ _ _ (by simp; omega), ← hE]
    exact heap_alloc_new W _
  have b1 : W4.heap[E + 1]? = some (.cells #[.pointer (some ⟨D, 0, none⟩)] 23 (0, 0)) := by
    rw [← hW4, Below.heap_alloc _ _ _ (by simp; omega), ← hE]
    have := heap_alloc_new (W.alloc (.cells #[.func (.yield l) #[] #[]] 43)) (.cells #[.pointer (some ⟨D, 0, none⟩)] 23)
    simpa using this
  have b2 : W4.heap[E + 2]? = some (.cells #[.int .i64 n] 3 (0, 0)) := by
    rw [← hW4, ← hE]
    have := heap_alloc_new ((W.alloc (.cells #[.func (.yield l) #[] #[]] 43)).alloc (.cells #[.pointer (some ⟨D, 0, none⟩)] 23)) (.cells #[.int .i64 n] 3)
    simpa using this
  have hs4 : W4.heap.size = E + 3 := by rw [← hW4]; simp; omega
  have hF4 : FI Bd Bm base D v qk ns name E l W4 := ⟨hsW.keep (S := fun _ => False) (Frm.below hb4) (fun e => e) (fun e => e) (fun _ _ e => e), b0, b1, hBd, hBm, fun k hk => by have := (hsW.doc.in_ k hk).2; omega⟩
  have hj4 : J [] W4 := hJ _ _ _ none h0 ⟨hb4.os, hb4.tape, hb4.output, hb4.size, fun k hk _ => hb4.block k hk⟩ (fun _ e => by cases e)
  have hSE := iterW_t 8 (by omega) n o lf b hvis (by omega) W4 (Bd := E + 1) (Bn := E + 2) ⟨b1, hF4.src.doc⟩ b2
  have hsz1 : (W.alloc (.cells #[.func (.yield l) #[] #[]] 43)).heap.size = E + 1 := by rw [World.size_alloc, hE]
  have HF4 := Lib.hid hF4
  have HJ4 := Lib.hid hj4
  have HSE := Lib.hid hSE
  have HJ := Lib.hid hJ
  have HY := Lib.hid hY
  clear hvis hs hbn hsW hnW hY hJ h0 hba hb4 b0 b1 b2 hF4 hj4 hSE
  refine callsIn_of_wp_marks Try.func64 rfl trivial ?_ rfl
  simp only [Try.ntmps64, List.size_toArray, List.length_cons, List.length_nil, Nat.reduceAdd, Nat.reduceSub, Array.replicate_succ, Array.replicate_zero, List.push_toArray, List.append_toArray, List.nil_append, List.cons_append]
  refine wpIn_wide.2 ?_
  go_wp2_with fail
  refine KW.out.mono ?_
  rintro e w2 ⟨rfl, rfl⟩
  rw [hsz1, hW4]
  clear hW4 cda cna KW hsz1
  go_wp2
  refine (wpIn_wide (n := 9)).1 ?_
  refine range_T rfl (enters_of Try.func48 (by kernel_rfl) rfl) HSE.out KpW.tr KpW.put (fun _ => rfl)
    (fun pre W => J (fnd ns name pre) W ∧ FI Bd Bm base D v qk ns name E l W) ?hI ⟨HJ4.out, HF4.out⟩ ?a1 ?assign ?body ?done
  case hI =>
    rintro s X Y row ⟨h1, h2⟩ hg hr
    exact ⟨HJ.out _ _ _ row h1 hg (fun r e => by have := hr r e; omega), h2.keep (S := fun k => row = some k) (Frm.grown hg (fun k e => e)) (fun k e => by have := hr k e; omega)⟩
  case assign =>
    intro l2 x W K hK
    gi_wp2
    exact hK
  case body =>
    rintro l2 pre ⟨k, d⟩ W5 ⟨hj, hf⟩ hlen hsz
    have c0 : W5.cell? ⟨Bd, 0, none⟩ = some (.pointer (some ⟨D, 0, none⟩)) := by rw [cell_of_row _ _ _ _ _ _ hf.src.bd]; rfl
    have cm : W5.cell? ⟨Bm, 0, none⟩ = some (.string name) := by rw [cell_of_row _ _ _ _ _ _ hf.src.bm]; rfl
    have hbn : Below W5.heap.size W5 (W5.alloc (.cells #[.string name] 9)) := (Below.refl _ W5).alloc (Nat.le_refl _) _
    have hz : RdT (W5.alloc (.cells #[.string name] 9)) (some ⟨W5.heap.size, 0, none⟩) [name] := by
      refine .inr ⟨_, 0, rfl, by rw [World.size_alloc]; omega, fun j x hx => ?_⟩
      match j with
      | 0 =>
        simp only [List.getElem?_cons_zero, Option.some.injEq] at hx
        subst hx
        rw [cell_of_row _ _ _ _ _ _ (heap_alloc_new W5 _)]
        rfl
      | j + 1 => simp at hx
    have hFn : FI Bd Bm base D v qk ns name E l (W5.alloc (.cells #[.string name] 9)) := hf.keep (S := fun _ => False) (Frm.below hbn) (fun _ e => e.elim)
    have hJn : J (fnd ns name pre) (W5.alloc (.cells #[.string name] 9)) := HJ.out.alloc _ hj
    have KI := is_any k [name] (some ⟨W5.heap.size, 0, none⟩) 1 _ hFn.src.doc hz (by simp)
    have cy : (W5.alloc (.cells #[.string name] 9)).cell? ⟨E, 0, none⟩ = some (.func (.yield l) #[] #[]) := by rw [cell_of_row _ _ _ _ _ _ hFn.by_]; rfl
    have hfl := fnd_le (ns := ns) (name := name) pre
    have hsn := fnd_snoc (ns := ns) (name := name) pre k d
    cases hi : isN ns k [name] with
    | true =>
      rw [hi] at KI hsn
      rw [if_pos rfl] at hsn
      obtain ⟨fn, tmps, assign, body, hy, hR⟩ := HY.out (fnd ns name pre) k _ hJn (by rw [← hsn]; exact (hlen.map Prod.fst).filter _) (by rw [World.size_alloc]; omega)
      simp only [enc1] at hy
      have HK := Lib.hid KI
      have HFn := Lib.hid hFn
      have HSN := Lib.hid hsn
      clear KI hFn hsn hi hj hf hbn hz hJn hfl HSE HY HJ
      gi_wp2_with (refine ⟨trivial, ?_⟩; gi_at_call 58; refine (CallsIn.inRound l2 (callsIn_wide.2 HK.out)).mono ?_; rintro e w2 ⟨rfl, rfl⟩)
      refine (RoundIn.deep hR).mono ?_
      rintro e W6 ⟨rfl, hj6, hk6⟩
      obtain ⟨t1, t2, t3⟩ := HFn.out.turn (by omega) hk6
      have hj7 : J (fnd ns name (pre ++ [(k, d)])) W6 := by rw [HSN.out]; exact hj6
      rw [← hs4] at t1 t2
      have T1 := Lib.hid t1
      have T2 := Lib.hid t2
      have T3 := Lib.hid t3
      have HJ7 := Lib.hid hj7
      clear hR hy hj6 hk6 t1 t2 t3 hj7
      gi_wp2
      exact ⟨T1.out, T2.out, HJ7.out, T3.out⟩
    | false =>
      rw [hi] at KI hsn
      rw [if_neg (by decide)] at hsn
      have HK := Lib.hid KI
      have HFn := Lib.hid hFn
      have HSN := Lib.hid hsn
      have HJn := Lib.hid hJn
      clear KI hFn hsn hi hj hf hbn hz hJn hfl HSE HY HJ
      gi_wp2_with (refine ⟨trivial, ?_⟩; gi_at_call 58; refine (CallsIn.inRound l2 (callsIn_wide.2 HK.out)).mono ?_; rintro e w2 ⟨rfl, rfl⟩)
      have hj7 : J (fnd ns name (pre ++ [(k, d)])) (W5.alloc (.cells #[.string name] 9)) := by rw [HSN.out]; exact HJn.out
      obtain ⟨t1, t2, t3⟩ := HFn.out.turn (W6 := W5.alloc (.cells #[.string name] 9)) (by omega) ⟨Nat.le_refl _, fun _ _ _ _ => rfl, fun h => h⟩
      rw [← hs4] at t1 t2
      refine ⟨fun _ e => (by cases e), ?_⟩
      have T1 := Lib.hid t1
      have T2 := Lib.hid t2
      have T3 := Lib.hid t3
      have HJ7 := Lib.hid hj7
      clear t1 t2 t3 hj7
      gi_wp2
      exact ⟨T1.out, T2.out, HJ7.out, T3.out⟩
  case done =>
    rintro D2 W5 hD ⟨hj, hf⟩ hK
    have HK := Lib.hid hK
    clear hK HSE HY
    refine ⟨by simp, .inl ⟨_, _, rfl, run_takeDeferred HK.out, ?_⟩⟩
    refine ⟨.tuple #[], ?_, ⟨_, rfl⟩, HJ.out _ _ _ (some D2) hj (grownBy_putObj' _ D2 _) (fun r e => by cases e; omega)⟩
    simp [results, Try.f64, go_sem]
end
end Go.Proofs.Ytodlcfhkiilpgaa
