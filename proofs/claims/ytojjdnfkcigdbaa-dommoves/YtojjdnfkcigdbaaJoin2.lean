/- A list with one more at a place. Lists of attributes, plain: the first of a name, one set, left out, once. -/
import Derived.Test.YtojjdnfkcigdbaaJoin0
import Derived.Test.YtojjdnfkcigdbaaIc
import Derived.WalkKit
namespace Go.Proofs.Ytojjdnfkcigdbaa
open Go.RowKit Go.Shelf Go.Lib
attribute [local go_sem] Oper.semAt_some

theorem rd_oneL (w : World) (n : Int) : Rd (w.alloc (.cells #[.int .i64 n] 3)) .i64 (some ⟨w.heap.size, 0, none⟩) [n] := by
  refine .inr ⟨w.heap.size, 0, rfl, by rw [World.size_alloc]; omega, fun j hj => ?_⟩
  match j, hj with
  | 0, _ => rw [cell_of_row _ _ _ _ _ _ (heap_alloc_new w _)]; rfl
set_option maxRecDepth 100000 in
set_option maxHeartbeats 2000000 in
theorem with_any (xs : List Int) (k : Nat) (n : Int) (A : Option Addr) (co : Nat) (w : World) (h : Rd w .i64 A xs) (hA : (A = none ∧ co = 0) ∨ ∃ b o, A = some ⟨b, o, none⟩) (hk : k ≤ xs.length) (hlx : xs.length ≤ 1000000) (hlc : xs.length ≤ co) (hcm : co ≤ maxLen) :
    Calls Try.prog 77 #[.slice A xs.length co, .int .i64 k, .int .i64 n] w fun e w' => ∃ v, e = .returned v ∧ w'.ownsRow w.heap.size 3 1 v (insL xs k n).length ((insL xs k n).map (Value.int .i64)) ∧ Below w.heap.size w w' := by
  obtain ⟨i0, hi, hz0, hz1, hz2⟩ := info_parts infoInt
  have hkc : (k : Int) ≤ (co : Int) := by omega
  have hkc2 : k ≤ co := by omega
  have hkn : (k : Int) ≤ (xs.length : Int) := by omega
  have H1 : Below w.heap.size w (w.alloc (.cells #[] 3)) := (Below.refl _ w).alloc (Nat.le_refl _) _
  have HB1 := Lib.hid H1
  have HO1 : Hid ((w.alloc (.cells #[] 3)).ownsRow w.heap.size 3 1 (.slice (some ⟨w.heap.size, 0, none⟩) 0 0) 0 []) := Lib.hid (World.ownsRow_lit w #[] 0 (Nat.le_refl _) (by decide) rfl)
  have HLC : Hid (xs.length ≤ co) := Lib.hid hlc
  have HR := Lib.hid h
  have HL1 : Hid ((xs.take k).length = k) := Lib.hid (by simp; omega)
  have HL2 : Hid ((xs.drop k).length = xs.length - k) := Lib.hid (by simp)
  have HK := Lib.hid hk
  have B1 : Hid (k ≤ 1000000) := Lib.hid (by omega)
  have HLX : Hid (xs.length ≤ 1000000) := Lib.hid hlx
  have HLN : Hid ((insL xs k n).length = k + 1 + (xs.length - k)) := Lib.hid (by unfold insL; simp; omega)
  have HVL : Hid ((insL xs k n).map (Value.int .i64) = (xs.take k).map (Value.int .i64) ++ [n].map (Value.int .i64) ++ (xs.drop k).map (Value.int .i64)) := Lib.hid (by unfold insL; simp)
  have m1 : ∀ m : Nat, m ≤ 1000001 → m ≤ maxLen := fun m hm => by unfold maxLen; omega
  have M1 := Lib.hid m1
  unfold maxLen at hcm
  clear H1 h hlx m1
  have S3 : ∀ (A2 : Option Addr) (m c : Nat) (w6 : World) (v6 : Value), (xs.drop k).length = m → Rd w6 .i64 A2 (xs.drop k) → (A2 = none → c = 0) → w6.ownsRow w.heap.size 3 1 v6 (k + 1) ((xs.take k).map (Value.int .i64) ++ [n].map (Value.int .i64)) → w.heap.size ≤ w6.heap.size →
      ∀ {ops : Array Oper} {rest : List Oper} {o : Oper} {a : Act} {Q : Exit → Act → World → Prop} {s x : Operand}, o.guard = none → o.op = .call { callee := .builtin .append, args := #[s, x], argTypes := #[30, 30] } → a.eval s = v6 → a.eval x = .slice A2 m c →
      (∀ v' w', w'.ownsRow w.heap.size 3 1 v' (insL xs k n).length ((insL xs k n).map (Value.int .i64)) → w6.grownBy w' v6.ownBlock → wpList Try.prog ops Q rest (a.put o.dst v') w') → wpList Try.prog ops Q (o :: rest) a w6 := by
    intro A2 m c w6 v6 hm hr hn ho hb ops rest o a Q s x hgd hop hs hx hK
    refine wpList_append_rd hgd 30 hop w.heap.size 3 i0 _ 8 Try.underlying30 hi hz0 hz1 hz2 v6 (k + 1) _ hs ho A2 m c hx (xs.drop k) .i64 hm hr hn rfl (M1.out _ (by have := HL2.out; have := HLX.out; have := HK.out; omega)) (by have := HL2.out; have := HLX.out; have := HK.out; omega) hb ?_
    intro v' w' ho' hg'
    refine hK v' w' ?_ hg'
    rw [HLN.out, HVL.out]
    have : k + 1 + m = k + 1 + (xs.length - k) := by rw [← hm, HL2.out]
    rw [← this]
    exact ho'
  have HS3 := Lib.hid S3
  clear S3
  rcases hA with ⟨rfl, rfl⟩ | ⟨bq, oq, rfl⟩
  · obtain rfl : xs = [] := by
      rcases HR.out with h | ⟨b, o, e, _⟩
      · exact h
      · cases e
    obtain rfl : k = 0 := by simpa using hk
    go_enter Try.func77, Try.ntmps77
    go_wp2_with (first
      | (at_builtin; refine HS3.out none 0 0 _ v6 rfl (.inl rfl) (fun _ => rfl) ho6 hb6.size rfl rfl rfl rfl ?_; intro v7 w7 ho7 hg7; have HO7 := Lib.hid ho7; have HB7 := Lib.hid (hb6.grown hg7 hb6.size (fun j e => (ho6.lt j e).1)); clear hg7 ho7)
      | (at_builtin; refine wpList_append_rd rfl 30 rfl w.heap.size 3 i0 _ 8 Try.underlying30 hi hz0 hz1 hz2 v5 _ _ rfl (own_keep ho5 ((Below.refl _ _).alloc (Nat.le_refl _) _)) (some ⟨w5.heap.size, 0, none⟩) 1 1 rfl [n] .i64 rfl (rd_oneL w5 n) (fun e => by cases e) rfl (M1.out _ (by have := B1.out; omega)) (by have := B1.out; omega) (by rw [World.size_alloc]; have := hb5.size; omega) ?_; intro v6 w6 ho6 hg6; have hb6 : Below w.heap.size w w6 := (hb5.alloc hb5.size _).grown hg6 (by rw [World.size_alloc]; have := hb5.size; omega) (fun j e => (ho5.lt j e).1); clear hg6)
      | (at_builtin; refine wpList_append_rd rfl 30 rfl w.heap.size 3 i0 _ 8 Try.underlying30 hi hz0 hz1 hz2 _ 0 [] rfl HO1.out none 0 0 rfl [] .i64 rfl (.inl rfl) (fun _ => rfl) rfl (by decide) (by decide) HB1.out.size ?_; intro v5 w5 ho5 hg5; have hb5 : Below w.heap.size w w5 := HB1.out.grown hg5 HB1.out.size (fun j e => (by cases e; exact Nat.le_refl _)); clear hg5))
    go_ret
    exact ⟨v7, rfl, HO7.out, HB7.out⟩
  · have HR1 := Lib.hid (rd_takeL (k := k) HR.out)
    have HR2 := Lib.hid (rd_dropL (k := k) HR.out)
    by_cases hcap : co = k
    · have HNIL := Lib.hid (show xs.drop k = [] from List.drop_eq_nil_of_le (by have := HLC.out; omega))
      subst hcap
      clear hkc
      have hkc : (co : Int) ≤ (co : Int) := Int.le_refl _
      have HZ : Hid ((xs.drop co).length = 0) := Lib.hid (by rw [HNIL.out]; rfl)
      go_enter Try.func77, Try.ntmps77
      go_wp2_with (first
        | (at_builtin; refine HS3.out (some ⟨bq, oq, none⟩) 0 0 _ v6 HZ.out (.inl HNIL.out) (fun _ => rfl) ho6 hb6.size rfl rfl rfl rfl ?_; intro v7 w7 ho7 hg7; have HO7 := Lib.hid ho7; have HB7 := Lib.hid (hb6.grown hg7 hb6.size (fun j e => (ho6.lt j e).1)); clear hg7 ho7)
        | (at_builtin; refine wpList_append_rd rfl 30 rfl w.heap.size 3 i0 _ 8 Try.underlying30 hi hz0 hz1 hz2 v5 _ _ rfl (own_keep ho5 ((Below.refl _ _).alloc (Nat.le_refl _) _)) (some ⟨w5.heap.size, 0, none⟩) 1 1 rfl [n] .i64 rfl (rd_oneL w5 n) (fun e => by cases e) rfl (M1.out _ (by have := B1.out; omega)) (by have := B1.out; omega) (by rw [World.size_alloc]; have := hb5.size; omega) ?_; intro v6 w6 ho6 hg6; have hb6 : Below w.heap.size w w6 := (hb5.alloc hb5.size _).grown hg6 (by rw [World.size_alloc]; have := hb5.size; omega) (fun j e => (ho5.lt j e).1); clear hg6)
        | (at_builtin; refine wpList_append_rd rfl 30 rfl w.heap.size 3 i0 _ 8 Try.underlying30 hi hz0 hz1 hz2 _ 0 [] rfl HO1.out (some ⟨bq, oq, none⟩) co co rfl (xs.take co) .i64 HL1.out (HR1.out.below HB1.out) (fun e => by cases e) rfl (M1.out _ (by have := B1.out; omega)) (by have := B1.out; omega) HB1.out.size ?_; intro v5 w5 ho5 hg5; have hb5 : Below w.heap.size w w5 := HB1.out.grown hg5 HB1.out.size (fun j e => (by cases e; exact Nat.le_refl _)); rw [List.nil_append, Nat.zero_add] at ho5; clear hg5))
      go_ret
      exact ⟨v7, rfl, HO7.out, HB7.out⟩
    · go_enter Try.func77, Try.ntmps77
      go_wp2_with (first
        | (at_builtin; refine HS3.out (some ⟨bq, oq + k, none⟩) (xs.length - k) (co - k) _ v6 HL2.out (HR2.out.below hb6) (fun e => by cases e) ho6 hb6.size rfl rfl rfl rfl ?_; intro v7 w7 ho7 hg7; have HO7 := Lib.hid ho7; have HB7 := Lib.hid (hb6.grown hg7 hb6.size (fun j e => (ho6.lt j e).1)); clear hg7 ho7)
        | (at_builtin; refine wpList_append_rd rfl 30 rfl w.heap.size 3 i0 _ 8 Try.underlying30 hi hz0 hz1 hz2 v5 _ _ rfl (own_keep ho5 ((Below.refl _ _).alloc (Nat.le_refl _) _)) (some ⟨w5.heap.size, 0, none⟩) 1 1 rfl [n] .i64 rfl (rd_oneL w5 n) (fun e => by cases e) rfl (M1.out _ (by have := B1.out; omega)) (by have := B1.out; omega) (by rw [World.size_alloc]; have := hb5.size; omega) ?_; intro v6 w6 ho6 hg6; have hb6 : Below w.heap.size w w6 := (hb5.alloc hb5.size _).grown hg6 (by rw [World.size_alloc]; have := hb5.size; omega) (fun j e => (ho5.lt j e).1); clear hg6)
        | (at_builtin; refine wpList_append_rd rfl 30 rfl w.heap.size 3 i0 _ 8 Try.underlying30 hi hz0 hz1 hz2 _ 0 [] rfl HO1.out (some ⟨bq, oq, none⟩) k co rfl (xs.take k) .i64 HL1.out (HR1.out.below HB1.out) (fun e => by cases e) rfl (M1.out _ (by have := B1.out; omega)) (by have := B1.out; omega) HB1.out.size ?_; intro v5 w5 ho5 hg5; have hb5 : Below w.heap.size w w5 := HB1.out.grown hg5 HB1.out.size (fun j e => (by cases e; exact Nat.le_refl _)); rw [List.nil_append, Nat.zero_add] at ho5; clear hg5))
      go_ret
      exact ⟨v7, rfl, HO7.out, HB7.out⟩
end Go.Proofs.Ytojjdnfkcigdbaa
namespace Go.Proofs.Ytojjdnfkcigdbaa

abbrev Atr := ByteArray × ByteArray
/-- the same bytes -/
def sm (a b : ByteArray) : Bool := a.toList == b.toList
theorem sm_iff {a b : ByteArray} : sm a b = true ↔ a = b := by
  unfold sm
  rw [beq_iff_eq, ByteArray.toList_eq, ByteArray.toList_eq]
  constructor
  · intro h
    cases a; cases b
    simp at h
    rw [h]
  · rintro rfl; rfl
theorem sm_self (a : ByteArray) : sm a a = true := sm_iff.2 rfl
theorem sm_ne {a b : ByteArray} : sm a b = false ↔ a ≠ b := by
  rw [← Bool.not_eq_true, sm_iff]
theorem sm_comm (a b : ByteArray) : sm a b = sm b a := by
  rw [Bool.eq_iff_iff, sm_iff, sm_iff]
  exact ⟨Eq.symm, Eq.symm⟩
def hs (s : ByteArray) (x : Atr) : Bool := sm x.1 s
theorem hs_iff {s : ByteArray} {x : Atr} : hs s x = true ↔ x.1 = s := sm_iff
theorem hs_ne {s : ByteArray} {x : Atr} : hs s x = false ↔ x.1 ≠ s := sm_ne

/-- where the first of a name stands; how many there are, if none does -/
def pl (xs : List Atr) (s : ByteArray) : Nat := xs.findIdx (hs s)
theorem pl_le (xs : List Atr) (s : ByteArray) : pl xs s ≤ xs.length := List.findIdx_le_length
theorem pl_hit {xs : List Atr} {s : ByteArray} {k : Nat} {x : Atr} (hk : xs[k]? = some x) (h : hs s x = true) (hn : ∀ (j : Nat) (y : Atr), j < k → xs[j]? = some y → hs s y = false) : pl xs s = k := by
  have hl := (List.getElem?_eq_some_iff.1 hk).1
  unfold pl
  rw [List.findIdx_eq hl]
  refine ⟨?_, fun j hj => hn j _ hj (List.getElem?_eq_getElem (by omega))⟩
  rw [List.getElem?_eq_getElem hl] at hk
  rw [Option.some.inj hk]; exact h
theorem pl_miss {xs : List Atr} {s : ByteArray} (hn : ∀ (j : Nat) (y : Atr), xs[j]? = some y → hs s y = false) : pl xs s = xs.length := by
  unfold pl
  rw [List.findIdx_eq_length]
  intro x hx
  obtain ⟨j, hj, rfl⟩ := List.getElem_of_mem hx
  exact hn j _ (List.getElem?_eq_getElem hj)
theorem pl_at {xs : List Atr} {s : ByteArray} (h : pl xs s < xs.length) : ∃ x, xs[pl xs s]? = some x ∧ x.1 = s :=
  ⟨_, List.getElem?_eq_getElem h, hs_iff.1 (List.findIdx_getElem (w := h))⟩
theorem pl_before {xs : List Atr} {s : ByteArray} {j : Nat} {y : Atr} (h : j < pl xs s) (hy : xs[j]? = some y) : hs s y = false := by
  have hj := (List.getElem?_eq_some_iff.1 hy).1
  rw [List.getElem?_eq_getElem hj] at hy
  rw [← Option.some.inj hy]
  exact List.not_of_lt_findIdx h |> fun h => by simpa using h
/-- the place, below 0 if there is none -/
def fst (xs : List Atr) (s : ByteArray) : Int := if pl xs s < xs.length then pl xs s else -1
theorem fst_hit {xs : List Atr} {s : ByteArray} (h : pl xs s < xs.length) : fst xs s = pl xs s := if_pos h
theorem fst_miss {xs : List Atr} {s : ByteArray} (h : ¬ pl xs s < xs.length) : fst xs s = -1 := if_neg h
theorem find_pl (xs : List Atr) (s : ByteArray) : xs[pl xs s]? = xs.find? (hs s) := by
  induction xs with
  | nil => rfl
  | cons x xs ih =>
    unfold pl at ih ⊢
    rw [List.findIdx_cons, List.find?_cons]
    cases h : hs s x with
    | true => rfl
    | false => simpa using ih
theorem find_fst {xs : List Atr} {s : ByteArray} {x : Atr} (h : xs.find? (hs s) = some x) : pl xs s < xs.length ∧ fst xs s = pl xs s ∧ xs[pl xs s]? = some x := by
  rw [← find_pl] at h
  have hl := (List.getElem?_eq_some_iff.1 h).1
  exact ⟨hl, fst_hit hl, h⟩
theorem find_none {xs : List Atr} {s : ByteArray} (h : xs.find? (hs s) = none) : ¬ pl xs s < xs.length ∧ fst xs s = -1 := by
  rw [← find_pl, List.getElem?_eq_none_iff] at h
  exact ⟨by omega, fst_miss (by omega)⟩

def setL (xs : List Atr) (s v : ByteArray) : List Atr := if pl xs s < xs.length then xs.set (pl xs s) (s, v) else xs ++ [(s, v)]
theorem find_setL (xs : List Atr) (s v : ByteArray) : (setL xs s v).find? (hs s) = some (s, v) := by
  have hv : hs s (s, v) = true := hs_iff.2 rfl
  unfold setL
  split
  · rename_i h
    have hp : pl (xs.set (pl xs s) (s, v)) s = pl xs s := by
      refine pl_hit (x := (s, v)) (by simp [h]) hv (fun j y hj hy => ?_)
      rw [List.getElem?_set_ne (by omega)] at hy
      exact pl_before hj hy
    rw [← find_pl, hp]
    simp [h]
  · rename_i h
    rw [List.find?_append]
    have : xs.find? (hs s) = none := by
      rw [← find_pl]
      exact List.getElem?_eq_none (by omega)
    rw [this]
    simp [hv]
def wout (xs : List Atr) (s : ByteArray) : List Atr := xs.filter fun x => !hs s x
theorem find_wout (xs : List Atr) (s : ByteArray) : (wout xs s).find? (hs s) = none := by
  rw [List.find?_eq_none]
  intro x hx
  simp only [wout, List.mem_filter] at hx
  simpa using hx.2
theorem wout_snoc (xs : List Atr) (x : Atr) (s : ByteArray) : wout (xs ++ [x]) s = wout xs s ++ if hs s x then [] else [x] := by
  unfold wout
  rw [List.filter_append]
  cases h : hs s x <;> simp [h]

/-- without those whose name was there already -/
def once (xs : List Atr) : List Atr := xs.foldl (fun acc x => if acc.any (hs x.1) then acc else acc ++ [x]) []
theorem once_snoc (xs : List Atr) (x : Atr) : once (xs ++ [x]) = if (once xs).any (hs x.1) then once xs else once xs ++ [x] := by
  unfold once
  rw [List.foldl_append]
  rfl
theorem snocRec {P : List Atr → Prop} (h0 : P []) (h1 : ∀ xs x, P xs → P (xs ++ [x])) (xs : List Atr) : P xs := by
  have : ∀ n (xs : List Atr), xs.length = n → P xs := by
    intro n
    induction n with
    | zero => intro xs h; rw [List.eq_nil_of_length_eq_zero h]; exact h0
    | succ n ih =>
      intro xs h
      have hne : xs ≠ [] := by rintro rfl; simp at h
      rw [← List.dropLast_concat_getLast hne]
      exact h1 _ _ (ih _ (by simp; omega))
  exact this _ xs rfl
theorem once_any (xs : List Atr) (s : ByteArray) : (once xs).any (hs s) = xs.any (hs s) := by
  induction xs using snocRec with
  | h0 => rfl
  | h1 xs x ih =>
    rw [once_snoc]
    split
    · rename_i h
      rw [ih, List.any_append]
      cases hx : hs s x with
      | false => simp [hx]
      | true =>
        have : x.1 = s := hs_iff.1 hx
        rw [this, ih] at h
        simp [h]
    · rw [List.any_append, List.any_append, ih]
theorem once_find (xs : List Atr) (s : ByteArray) : (once xs).find? (hs s) = xs.find? (hs s) := by
  induction xs using snocRec with
  | h0 => rfl
  | h1 xs x ih =>
    rw [once_snoc]
    split
    · rename_i h
      rw [ih, List.find?_append]
      cases hx : hs s x with
      | false => simp [hx]
      | true =>
        have : x.1 = s := hs_iff.1 hx
        rw [this, once_any] at h
        cases hf : xs.find? (hs s) with
        | some y => rfl
        | none =>
          rw [List.find?_eq_none] at hf
          rw [List.any_eq_true] at h
          obtain ⟨y, hy, hy2⟩ := h
          exact absurd hy2 (hf y hy)
    · rw [List.find?_append, List.find?_append, ih]
/-- no name twice -/
def Sgl (xs : List Atr) : Prop := xs.Pairwise fun x y => x.1 ≠ y.1
theorem once_sgl (xs : List Atr) : Sgl (once xs) := by
  induction xs using snocRec with
  | h0 => exact List.Pairwise.nil
  | h1 xs x ih =>
    rw [once_snoc]
    split
    · exact ih
    · rename_i h
      unfold Sgl at ih ⊢
      rw [List.pairwise_append]
      refine ⟨ih, by simp, fun a ha b hb => ?_⟩
      simp at hb
      subst hb
      intro e
      exact h (List.any_eq_true.2 ⟨a, ha, hs_iff.2 e⟩)
theorem once_id {xs : List Atr} (h : Sgl xs) : once xs = xs := by
  induction xs using snocRec with
  | h0 => rfl
  | h1 xs x ih =>
    unfold Sgl at h ih
    rw [List.pairwise_append] at h
    rw [once_snoc, ih h.1, if_neg]
    intro ha
    rw [List.any_eq_true] at ha
    obtain ⟨y, hy, hy2⟩ := ha
    exact h.2.2 y hy x (by simp) (hs_iff.1 hy2)
theorem once_once (xs : List Atr) : once (once xs) = once xs := once_id (once_sgl xs)
theorem once_len (xs : List Atr) : (once xs).length ≤ xs.length := by
  induction xs using snocRec with
  | h0 => simp [once]
  | h1 xs x ih =>
    rw [once_snoc]
    split <;> simp <;> omega
theorem once_mem {xs : List Atr} {x : Atr} (h : x ∈ once xs) : x ∈ xs := by
  induction xs using snocRec with
  | h0 => exact h
  | h1 xs y ih =>
    rw [once_snoc] at h
    split at h
    · exact List.mem_append_left _ (ih h)
    · rcases List.mem_append.1 h with h | h
      · exact List.mem_append_left _ (ih h)
      · exact List.mem_append_right _ h
/-- a place is the first of its name just where none ahead has that name -/
theorem pl_self {xs : List Atr} {k : Nat} {x : Atr} (hk : xs[k]? = some x) : pl xs x.1 = k ↔ (xs.take k).any (hs x.1) = false := by
  have hx : hs x.1 x = true := hs_iff.2 rfl
  constructor
  · intro h
    rw [List.any_eq_false]
    intro y hy
    obtain ⟨j, hj, rfl⟩ := List.getElem_of_mem hy
    have hj2 : j < k := by simp at hj; omega
    have hj3 : j < xs.length := by simp at hj; omega
    have := pl_before (xs := xs) (s := x.1) (j := j) (y := xs[j]) (by omega) (List.getElem?_eq_getElem hj3)
    simpa using this
  · intro h
    rw [List.any_eq_false] at h
    refine pl_hit hk hx (fun j y hj hy => ?_)
    have : y ∈ xs.take k := List.mem_of_getElem? (i := j) (by rw [List.getElem?_take, if_pos hj]; exact hy)
    simpa using h y this
theorem pl_le_self {xs : List Atr} {k : Nat} {x : Atr} (hk : xs[k]? = some x) : pl xs x.1 ≤ k := by
  rcases Nat.lt_or_ge k (pl xs x.1) with h | h
  · have := pl_before h hk
    rw [hs_ne] at this
    exact absurd rfl this
  · exact h
theorem take_snoc {α : Type} {xs : List α} {k : Nat} {x : α} (hk : xs[k]? = some x) : xs.take (k + 1) = xs.take k ++ [x] := by
  rw [List.take_add_one, hk]
  rfl
theorem once_take {xs : List Atr} {k : Nat} {x : Atr} (hk : xs[k]? = some x) : once (xs.take (k + 1)) = if pl xs x.1 = k then once (xs.take k) ++ [x] else once (xs.take k) := by
  rw [take_snoc hk, once_snoc, once_any]
  by_cases h : pl xs x.1 = k
  · rw [if_pos h, (pl_self hk).1 h]
    simp
  · rw [if_neg h, if_pos]
    cases h2 : (xs.take k).any (hs x.1) with
    | true => rfl
    | false => exact absurd ((pl_self hk).2 h2) h

/-- x's value is what the second list has under its name -/
def alk (b : List Atr) (x : Atr) : Bool := match b.find? (hs x.1) with | some y => sm y.2 x.2 | none => false
def alike (a b : List Atr) : Bool := a.length == b.length && a.all (alk b)
theorem alk_self {b : List Atr} {x : Atr} (hb : ∀ y ∈ b, ∀ z ∈ b, y.1 = z.1 → y = z) (hx : x ∈ b) : alk b x = true := by
  unfold alk
  cases h : b.find? (hs x.1) with
  | none =>
    rw [List.find?_eq_none] at h
    exact absurd (hs_iff.2 rfl) (h x hx)
  | some y =>
    have hy := List.mem_of_find?_eq_some h
    have hn := hs_iff.1 (List.find?_some h)
    rw [hb y hy x hx hn]
    exact sm_self _
theorem sgl_inj {b : List Atr} (h : Sgl b) : ∀ y ∈ b, ∀ z ∈ b, y.1 = z.1 → y = z := by
  induction b with
  | nil => intro y hy; cases hy
  | cons x b ih =>
    unfold Sgl at h ih
    rw [List.pairwise_cons] at h
    intro y hy z hz e
    rcases List.mem_cons.1 hy with h1 | h1
    · rcases List.mem_cons.1 hz with h2 | h2
      · rw [h1, h2]
      · exact absurd e (by rw [h1]; exact h.1 z h2)
    · rcases List.mem_cons.1 hz with h2 | h2
      · exact absurd e.symm (by rw [h2]; exact h.1 y h1)
      · exact ih h.2 y h1 z h2 e
theorem alike_of {a b : List Atr} (hl : a.length = b.length) (ha : Sgl a) (hab : ∀ x, x ∈ b ↔ x ∈ a) : alike a b = true := by
  unfold alike
  rw [Bool.and_eq_true, beq_iff_eq, List.all_eq_true]
  refine ⟨hl, fun x hx => alk_self (fun y hy z hz e => sgl_inj ha y ((hab y).1 hy) z ((hab z).1 hz) e) ((hab x).2 hx)⟩
theorem alike_once (xs : List Atr) : alike (once xs) (once xs) = true := alike_of rfl (once_sgl xs) (fun _ => Iff.rfl)
/-- the list turned about -/
def rot (xs : List Atr) (t : Nat) : List Atr := (List.range xs.length).map fun i => xs[(i + t) % xs.length]!
theorem rot_len (xs : List Atr) (t : Nat) : (rot xs t).length = xs.length := by simp [rot]
theorem rot_mem (xs : List Atr) (t : Nat) (x : Atr) : x ∈ rot xs t ↔ x ∈ xs := by
  unfold rot
  rw [List.mem_map]
  constructor
  · rintro ⟨i, hi, rfl⟩
    rw [List.mem_range] at hi
    have hm : (i + t) % xs.length < xs.length := Nat.mod_lt _ (by omega)
    rw [List.getElem!_eq_getElem?_getD, List.getElem?_eq_getElem hm]
    exact List.getElem_mem hm
  · intro hx
    obtain ⟨j, hj, rfl⟩ := List.getElem_of_mem hx
    refine ⟨(j + xs.length * t - t) % xs.length, List.mem_range.2 (Nat.mod_lt _ (by omega)), ?_⟩
    have ht : t ≤ xs.length * t := Nat.le_mul_of_pos_left _ (by omega)
    have : ((j + xs.length * t - t) % xs.length + t) % xs.length = j := by
      rw [Nat.mod_add_mod, show j + xs.length * t - t + t = j + xs.length * t by omega, Nat.add_mul_mod_self_left, Nat.mod_eq_of_lt hj]
    rw [this, List.getElem!_eq_getElem?_getD, List.getElem?_eq_getElem hj]
    rfl
theorem alike_rot (xs : List Atr) (t : Nat) : alike (once xs) (rot (once xs) t) = true :=
  alike_of (rot_len _ _).symm (once_sgl xs) (fun x => rot_mem _ _ x)

end Go.Proofs.Ytojjdnfkcigdbaa
