/- Plain laws of the table of names: each name is found by itself. -/
import Derived.Test.YtdoglpaggmdnpaaCx
namespace Go.Proofs.Ytdoglpaggmdnpaa
namespace Cx

theorem pre_more (e : List UInt8) (h : ∀ c ∈ e, c ≠ 59) (l more : List Int) : pre e (l ++ 59 :: more) = pre e (l ++ [59]) := by
  induction e generalizing l with
  | nil => rfl
  | cons c r ih =>
    have hc : (59 == (c.toNat : Int)) = false := by
      have := h c (by simp)
      rw [beq_eq_false_iff_ne]
      intro hx
      apply this
      apply UInt8.toNat_inj.1
      have h59 : (59 : UInt8).toNat = 59 := rfl
      omega
    cases l with
    | nil => simp [pre, hc]
    | cons x l => simp only [List.cons_append, pre]; rw [ih (fun c hc => h c (by simp [hc]))]
theorem pre_len (e : List UInt8) (h : ∀ c ∈ e, c ≠ 59) (l : List Int) (hp : pre e (l ++ [59]) = true) : e.length ≤ l.length := by
  induction e generalizing l with
  | nil => simp
  | cons c r ih =>
    cases l with
    | nil =>
      simp only [List.nil_append, pre, Bool.and_eq_true, beq_iff_eq] at hp
      have := h c (by simp)
      exfalso
      apply this
      apply UInt8.toNat_inj.1
      have h59 : (59 : UInt8).toNat = 59 := rfl
      omega
    | cons x l =>
      simp only [List.cons_append, pre, Bool.and_eq_true] at hp
      have := ih (fun c hc => h c (by simp [hc])) l hp.2
      simp only [List.length_cons]
      omega
theorem taken_more (e : List UInt8) (b : Bool) (h : ∀ c ∈ e, c ≠ 59) (l more : List Int) : taken (l ++ 59 :: more) e b = taken (l ++ [59]) e b := by
  unfold taken
  rw [pre_more e h l more]
  by_cases hp : pre e (l ++ [59]) = true
  · rw [if_pos hp, if_pos hp]
    have hl := pre_len e h l hp
    have : (l ++ 59 :: more)[e.length]? = (l ++ [59])[e.length]? := by
      rcases Nat.lt_or_ge e.length l.length with h1 | h1
      · rw [List.getElem?_append_left h1, List.getElem?_append_left h1]
      · have : e.length = l.length := by omega
        rw [this, List.getElem?_append_right (Nat.le_refl _), List.getElem?_append_right (Nat.le_refl _), Nat.sub_self]
        rfl
    rw [this]
  · rw [if_neg hp, if_neg hp]
theorem tab_no59 : ∀ e ∈ tab, ∀ c ∈ e.1, c ≠ 59 := by decide
theorem fold_more (l more : List Int) (t : List (List UInt8 × Int × Bool)) (h : ∀ e ∈ t, ∀ c ∈ e.1, c ≠ 59) (st : (List UInt8 × Int × Bool) × Nat × Bool) : t.foldl (better (l ++ 59 :: more)) st = t.foldl (better (l ++ [59])) st := by
  induction t generalizing st with
  | nil => rfl
  | cons e t ih =>
    rw [List.foldl_cons, List.foldl_cons]
    have : better (l ++ 59 :: more) st e = better (l ++ [59]) st e := by
      unfold better
      rw [taken_more e.1 e.2.2 (h e (by simp)) l more]
    rw [this, ih (fun e he => h e (by simp [he]))]
theorem best_more (l more : List Int) : best (l ++ 59 :: more) 61 = best (l ++ [59]) 61 := by
  unfold best
  exact fold_more l more _ (fun e he => tab_no59 e (List.mem_of_mem_take he)) _
def nums (nm : List UInt8) : List Int := nm.map fun c => (c.toNat : Int)
def selfOk (e : List UInt8 × Int × Bool) : Bool :=
  best (nums e.1 ++ [59]) 61 == (e, e.1.length + 1, true) && (best (nums e.1) 61).2.2 == false && ((best (nums e.1) 61).2.1 == e.1.length) == e.2.2
theorem tab_self : tab.all selfOk = true := by decide +kernel
theorem self_at (k : Nat) (h : k < 61) (nm : List UInt8) (sg : Int) (bare : Bool) (he : tab[k]?.getD ([], 0, false) = (nm, sg, bare)) (more : List Int) :
    best (nums nm ++ 59 :: more) 61 = ((nm, sg, bare), nm.length + 1, true) ∧ (best (nums nm) 61).2.2 = false ∧ ((best (nums nm) 61).2.1 == nm.length) = bare := by
  have hk : k < tab.length := h
  rw [List.getElem?_eq_getElem hk, Option.getD_some] at he
  have hs := List.all_eq_true.1 tab_self tab[k] (List.getElem_mem hk)
  rw [he] at hs
  simp only [selfOk, Bool.and_eq_true] at hs
  obtain ⟨⟨h1, h2⟩, h3⟩ := hs
  exact ⟨(best_more _ _).trans (eq_of_beq h1), eq_of_beq h2, eq_of_beq h3⟩

theorem tab_asc : ∀ k : Fin 60, Op.bytesLess (tab[k.val]?.getD ([], 0, false)).1 (tab[k.val + 1]?.getD ([], 0, false)).1 = true := by decide +kernel
theorem asc_at (k : Nat) (h : k + 1 < 61) {nm nm' : List UInt8} {sg sg' : Int} {bare bare' : Bool} (he' : tab[k]?.getD ([], 0, false) = (nm', sg', bare')) (he : tab[k + 1]?.getD ([], 0, false) = (nm, sg, bare)) : Op.bytesLess nm' nm = true := by
  have := tab_asc ⟨k, by omega⟩
  simp only at this
  rw [he', he] at this
  exact this

end Cx
end Go.Proofs.Ytdoglpaggmdnpaa
