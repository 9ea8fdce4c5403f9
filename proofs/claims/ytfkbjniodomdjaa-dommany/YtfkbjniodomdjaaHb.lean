/- Walking a tree: what is shown beneath a node, in which order; what lies in memory meanwhile. -/
import Derived.Test.YtfkbjniodomdjaaHa
import Derived.Test.YtfkbjniodomdjaaGb
namespace Go.Proofs.Ytfkbjniodomdjaa
open Go.RowKit Go.Shelf Go.Lib

/-- the node whose kids are shown -/
def srcN (ns : List Nd) (n : Int) : Int := if innN ns n = -1 then n else innN ns n
section
variable {base D : Nat} {v : Value} {qk : Bool} {ns : List Nd}
theorem shown_any (n : Int) (W : World) (h : DocM base D v qk ns W) : Calls Try.prog 48 #[.pointer (some ⟨D, 0, none⟩), .int .i64 n] W fun e W' => e = .returned (atN ns (srcN ns n) Nd.kv (.slice none 0 0)) ∧ W' = W := by
  have KI := Lib.hid (inner_any n W h)
  unfold srcN
  obtain ⟨q, hq⟩ : ∃ q, innN ns n = q := ⟨_, rfl⟩
  rw [hq] at KI ⊢
  clear hq
  by_cases hn : q = -1
  · rw [if_pos hn]
    have e1 : (q != -1) = false := by rw [hn]; rfl
    have KK := Lib.hid (kids_any n W h)
    obtain ⟨A, c, e2, _⟩ := kids_form n h
    rw [e2] at KK ⊢
    clear h hn e2
    go_enter Try.func48, Try.ntmps48
    go_wp2_with fail
    refine KI.out.mono ?_
    rintro e w1 ⟨rfl, rfl⟩
    go_wp2_with fail
    refine KK.out.mono ?_
    rintro e w1 ⟨rfl, rfl⟩
    go_wp2
    go_ret
    exact ⟨rfl, rfl⟩
  · rw [if_neg hn]
    have e1 : (q != -1) = true := by rw [bne_iff_ne]; exact hn
    have KK := Lib.hid (kids_any q W h)
    obtain ⟨A, c, e2, _⟩ := kids_form q h
    rw [e2] at KK ⊢
    clear h hn e2
    go_enter Try.func48, Try.ntmps48
    go_wp2_with fail
    refine KI.out.mono ?_
    rintro e w1 ⟨rfl, rfl⟩
    go_wp2_with fail
    refine KK.out.mono ?_
    rintro e w1 ⟨rfl, rfl⟩
    go_wp2
    go_ret
    exact ⟨rfl, rfl⟩
end
/-- a walk over some kids, with so many left to show: what is shown, how many are left then, whether it came to its end -/
inductive Vis (ns : List Nd) : Nat → List Int → Nat → List (Int × Nat) → Nat → Bool → Prop
  | nil {left d} : Vis ns left [] d [] left true
  | skip {left k ks d o l b} : inN ns k = false → Vis ns left ks d o l b → Vis ns left (k :: ks) d o l b
  | out {k ks d} : inN ns k = true → Vis ns 0 (k :: ks) d [] 0 false
  | stop {left k ks d o l} : inN ns k = true → Vis ns left (kdN ns (srcN ns k)) (d + 1) o l false → Vis ns (left + 1) (k :: ks) d ((k, d) :: o) l false
  | go {left k ks d o l o2 l2 b} : inN ns k = true → Vis ns left (kdN ns (srcN ns k)) (d + 1) o l true → Vis ns l ks d o2 l2 b → Vis ns (left + 1) (k :: ks) d ((k, d) :: o ++ o2) l2 b
theorem Vis.le {ns : List Nd} {left d l : Nat} {ks : List Int} {o : List (Int × Nat)} {b : Bool} (h : Vis ns left ks d o l b) : o.length + l ≤ left := by
  induction h with
  | nil => simp
  | skip _ _ ih => exact ih
  | out _ => simp
  | stop _ _ ih => simp; omega
  | go _ _ _ ih1 ih2 => simp; omega
/-- there is always one -/
theorem Vis.ex (ns : List Nd) : ∀ (left : Nat) (ks : List Int) (d : Nat), ∃ o l b, Vis ns left ks d o l b := by
  intro left
  induction left using Nat.strongRecOn with
  | _ left ih =>
    intro ks
    induction ks with
    | nil => intro d; exact ⟨_, _, _, .nil⟩
    | cons k ks ihk =>
      intro d
      cases hk : inN ns k with
      | false =>
        obtain ⟨o, l, b, h⟩ := ihk d
        exact ⟨o, l, b, .skip hk h⟩
      | true =>
        cases left with
        | zero => exact ⟨_, _, _, .out hk⟩
        | succ m =>
          obtain ⟨o, l, b, h⟩ := ih m (Nat.lt_succ_self m) (kdN ns (srcN ns k)) (d + 1)
          cases b with
          | false => exact ⟨_, _, _, .stop hk h⟩
          | true =>
            have hle := h.le
            obtain ⟨o2, l2, b2, h2⟩ := ih l (by omega) ks d
            exact ⟨_, _, _, .go hk h h2⟩
/-- what the walk reads: the box of the tree, the tree -/
structure SrcD (Bd base D : Nat) (v : Value) (qk : Bool) (ns : List Nd) (W : World) : Prop where
  bd : W.heap[Bd]? = some (.cells #[.pointer (some ⟨D, 0, none⟩)] 24 (0, 0))
  doc : DocM base D v qk ns W
/-- its own three boxes, from E on: the caller's round, how many are left, itself -/
structure VM (Bd base D : Nat) (v : Value) (qk : Bool) (ns : List Nd) (E l left : Nat) (W : World) : Prop where
  src : SrcD Bd base D v qk ns W
  by_ : W.heap[E]? = some (.cells #[.func (.yield l) #[] #[]] 86 (0, 0))
  bl : W.heap[E + 1]? = some (.cells #[.int .i64 left] 3 (0, 0))
  bv : W.heap[E + 2]? = some (.cells #[.func (.func 47) #[] #[.pointer (some ⟨Bd, 0, none⟩), .pointer (some ⟨E + 1, 0, none⟩), .pointer (some ⟨E, 0, none⟩), .pointer (some ⟨E + 2, 0, none⟩)]] 86 (0, 0))
  lt : Bd < E
  dlt : ∀ k, DB D v ns k → k < E
/-- what a round keeps -/
def KpW (Bd base D : Nat) (v : Value) (qk : Bool) (ns : List Nd) (E : Nat) (W W' : World) : Prop :=
  (W.heap.size ≤ W'.heap.size) ∧ (∀ k, E ≤ k → k < E + 3 → k < W.heap.size → W'.heap[k]? = W.heap[k]?) ∧ (SrcD Bd base D v qk ns W → SrcD Bd base D v qk ns W')
section
variable {Bd base D : Nat} {v : Value} {qk : Bool} {ns : List Nd} {E l left : Nat} {W W' : World}
theorem SrcD.keep {S : Nat → Prop} (h : SrcD Bd base D v qk ns W) (hf : Frm S W W') (h0 : ¬ S Bd) (hS : ∀ k, DB D v ns k → ¬ S k) : SrcD Bd base D v qk ns W' :=
  ⟨(hf.block Bd (Array.getElem?_eq_some_iff.1 h.bd).1 h0).trans h.bd, h.doc.keep hf hS⟩
theorem VM.keep {S : Nat → Prop} (h : VM Bd base D v qk ns E l left W) (hf : Frm S W W') (hS : ∀ k, S k → E + 3 ≤ k) : VM Bd base D v qk ns E l left W' := by
  have hlt := h.lt
  have hx : ∀ k, k < E + 3 → k < W.heap.size → W'.heap[k]? = W.heap[k]? := fun k h1 h2 => hf.block k h2 (fun e => by have := hS k e; omega)
  exact ⟨h.src.keep hf (fun e => by have := hS _ e; omega) (fun k hk e => by have := h.dlt k hk; have := hS k e; omega), (hx _ (by omega) (Array.getElem?_eq_some_iff.1 h.by_).1).trans h.by_, (hx _ (by omega) (Array.getElem?_eq_some_iff.1 h.bl).1).trans h.bl, (hx _ (by omega) (Array.getElem?_eq_some_iff.1 h.bv).1).trans h.bv, h.lt, h.dlt⟩
theorem VM.below (h : VM Bd base D v qk ns E l left W) (hb : Below W.heap.size W W') : VM Bd base D v qk ns E l left W' := h.keep (S := fun _ => False) (Frm.below hb) (fun _ e => e.elim)
/-- a round's end -/
theorem VM.round (h : VM Bd base D v qk ns E l left W) (hk : KpW Bd base D v qk ns E W W') : VM Bd base D v qk ns E l left W' := by
  obtain ⟨_, h2, h3⟩ := hk
  have hv := (Array.getElem?_eq_some_iff.1 h.bv).1
  exact ⟨h3 h.src, (h2 _ (by omega) (by omega) (by omega)).trans h.by_, (h2 _ (by omega) (by omega) (by omega)).trans h.bl, (h2 _ (by omega) (by omega) (by omega)).trans h.bv, h.lt, h.dlt⟩
/-- one less is left -/
theorem VM.less {left' : Nat} (h : VM Bd base D v qk ns E l left W) : VM Bd base D v qk ns E l left' (W.setCell ⟨E + 1, 0, none⟩ (.int .i64 left')) := by
  have hF : Frm (fun k => k = E + 1) W (W.setCell ⟨E + 1, 0, none⟩ (.int .i64 left')) := Frm.set _ rfl
  have hlt := h.lt
  have hv := (Array.getElem?_eq_some_iff.1 h.bv).1
  exact ⟨h.src.keep hF (by omega) (fun k hk e => by have := h.dlt k hk; omega), (hF.block _ (by omega) (by omega)).trans h.by_, heap_setCell_same _ _ 0 _ _ _ h.bl, (hF.block _ (by omega) (by omega)).trans h.bv, h.lt, h.dlt⟩
theorem VM.cells (h : VM Bd base D v qk ns E l left W) : W.cell? ⟨Bd, 0, none⟩ = some (.pointer (some ⟨D, 0, none⟩)) ∧ W.cell? ⟨E, 0, none⟩ = some (.func (.yield l) #[] #[]) ∧ W.cell? ⟨E + 1, 0, none⟩ = some (.int .i64 left) ∧ W.frozen? ⟨E + 1, 0, none⟩ = false ∧ W.cell? ⟨E + 2, 0, none⟩ = some (.func (.func 47) #[] #[.pointer (some ⟨Bd, 0, none⟩), .pointer (some ⟨E + 1, 0, none⟩), .pointer (some ⟨E, 0, none⟩), .pointer (some ⟨E + 2, 0, none⟩)]) ∧ E + 3 ≤ W.heap.size := by
  refine ⟨?_, ?_, ?_, ?_, ?_, ?_⟩
  · rw [cell_of_row _ _ _ _ _ _ h.src.bd]; rfl
  · rw [cell_of_row _ _ _ _ _ _ h.by_]; rfl
  · rw [cell_of_row _ _ _ _ _ _ h.bl]; rfl
  · simp [World.frozen?, h.bl]
  · rw [cell_of_row _ _ _ _ _ _ h.bv]; rfl
  · have := (Array.getElem?_eq_some_iff.1 h.bv).1; omega
end
end Go.Proofs.Ytfkbjniodomdjaa
