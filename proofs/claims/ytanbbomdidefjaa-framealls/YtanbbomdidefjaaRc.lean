/- Frames one behind the other, cut anywhere, plain. -/
import Derived.Test.YtanbbomdidefjaaRb
namespace Go.Proofs.Ytanbbomdidefjaa
open Go.RowKit

/-- frames one behind the other -/
def bOf (ds : List (List Int)) : List Int := ds.flatMap Fx.frame
theorem bOf_cons (d : List Int) (ds : List (List Int)) : bOf (d :: ds) = Fx.frame d ++ bOf ds := rfl
theorem bOf_snoc (ds : List (List Int)) (d : List Int) : bOf (ds ++ [d]) = bOf ds ++ Fx.frame d := by simp [bOf]
/-- where each ends -/
def fe : Nat → List (List Int) → List Nat
  | _, [] => []
  | p, d :: ds => (p + (Fx.frame d).length) :: fe (p + (Fx.frame d).length) ds
theorem fe_len : ∀ (ds : List (List Int)) (p : Nat), (fe p ds).length = ds.length
  | [], _ => rfl
  | d :: ds, p => by simp [fe, fe_len ds]
theorem fe_snoc : ∀ (ds : List (List Int)) (d : List Int) (p : Nat), fe p (ds ++ [d]) = fe p ds ++ [p + (bOf (ds ++ [d])).length]
  | [], d, p => by simp [fe, bOf]
  | x :: ds, d, p => by
    simp only [List.cons_append, fe, fe_snoc ds d, bOf_cons, List.length_append]
    simp [Nat.add_assoc]
/-- those that are whole within q -/
def wh (p : Nat) (ds : List (List Int)) (q : Nat) : List (Nat × List Int) := ((fe p ds).zip ds).takeWhile (fun x => decide (x.1 ≤ q))
theorem wh_pre (p : Nat) (ds : List (List Int)) (q : Nat) : wh p ds q <+: (fe p ds).zip ds := List.takeWhile_prefix _
theorem wh_len (p : Nat) (ds : List (List Int)) (q : Nat) : (wh p ds q).length ≤ ds.length := by
  have := (wh_pre p ds q).length_le
  rw [List.length_zip, fe_len] at this
  omega
theorem tw_mem {α : Type} (f : α → Bool) : ∀ (l : List α) (x : α), x ∈ l.takeWhile f → f x = true
  | [], x, h => by simp at h
  | y :: l, x, h => by
    rw [List.takeWhile_cons] at h
    split at h
    · rename_i hy
      rw [List.mem_cons] at h
      rcases h with rfl | h
      · exact hy
      · exact tw_mem f l x h
    · cases h
theorem wh_at {p : Nat} {ds : List (List Int)} {q i : Nat} (hi : i < (wh p ds q).length) : ∃ e d, (wh p ds q)[i]? = some (e, d) ∧ (fe p ds)[i]? = some e ∧ ds[i]? = some d ∧ e ≤ q := by
  have h1 : (wh p ds q)[i]? = some (wh p ds q)[i] := List.getElem?_eq_getElem hi
  have h2 : ((fe p ds).zip ds)[i]? = some (wh p ds q)[i] := by
    obtain ⟨t, ht⟩ := wh_pre p ds q
    rw [← ht, List.getElem?_append_left hi]
    exact h1
  have h3 := List.mem_of_getElem? h1
  have h4 : decide ((wh p ds q)[i].1 ≤ q) = true := by
    exact tw_mem (fun x : Nat × List Int => decide (x.1 ≤ q)) _ _ h3
  have := List.getElem?_zip_eq_some.1 h2
  exact ⟨_, _, h1, this.1, this.2, of_decide_eq_true h4⟩
theorem tw_stop {α : Type} (f : α → Bool) : ∀ (l : List α) (x : α), l[(l.takeWhile f).length]? = some x → f x = false
  | [], x, h => by simp at h
  | y :: l, x, h => by
    rw [List.takeWhile_cons] at h
    split at h
    · exact tw_stop f l x (by simpa using h)
    · rename_i hy
      simp at h
      subst h
      simpa using hy
theorem wh_stop {p : Nat} {ds : List (List Int)} {q e : Nat} (he : (fe p ds)[(wh p ds q).length]? = some e) : q < e := by
  have hl := (List.getElem?_eq_some_iff.1 he).1
  rw [fe_len] at hl
  have h1 : ds[(wh p ds q).length]? = some ds[(wh p ds q).length] := List.getElem?_eq_getElem hl
  have := tw_stop (fun x : Nat × List Int => decide (x.1 ≤ q)) ((fe p ds).zip ds) (e, ds[(wh p ds q).length]) (List.getElem?_zip_eq_some.2 ⟨he, h1⟩)
  have := of_decide_eq_false this
  simp only at this
  omega

theorem fe_le : ∀ (ds : List (List Int)) (p : Nat), ∀ e ∈ fe p ds, e ≤ p + (bOf ds).length
  | [], _, e, h => by cases h
  | d :: ds, p, e, h => by
    simp only [fe, List.mem_cons] at h
    rw [bOf_cons, List.length_append]
    rcases h with rfl | h
    · omega
    · have := fe_le ds _ e h
      omega
theorem wh_all (ds : List (List Int)) : (wh 0 ds (bOf ds).length).length = ds.length := by
  have h1 := wh_len 0 ds (bOf ds).length
  by_cases h : (wh 0 ds (bOf ds).length).length < ds.length
  · obtain ⟨e, h2⟩ : ∃ e, (fe 0 ds)[(wh 0 ds (bOf ds).length).length]? = some e := ⟨_, List.getElem?_eq_getElem (by rw [fe_len]; exact h)⟩
    have h3 := wh_stop h2
    have h4 := fe_le ds 0 _ (List.mem_of_getElem? h2)
    omega
  · omega
theorem frame_length (d : List Int) : (Fx.frame d).length = (Nx.put d.length).length + 4 + d.length := by
  unfold Fx.frame
  simp [four_len]
  omega
theorem next_nil : nextP [] = .error 8 := by rfl
theorem short_put : ((List.range 201).all fun n => (List.range 12).all fun m => !decide (m < (Nx.put n).length) || (lenOf ((Nx.put n).take m)).2.2 == 8) = true := by kernel_rfl
theorem next_put_cut (n m : Nat) (hn : n ≤ 200) (hm : m < (Nx.put n).length) : nextP ((Nx.put n).take m) = .error 8 := by
  have hl := Nx.put_len n (by omega)
  have h1 := List.all_eq_true.1 short_put n (List.mem_range.2 (by omega))
  have h2 := List.all_eq_true.1 h1 m (List.mem_range.2 (by omega))
  rw [decide_eq_true hm] at h2
  simp at h2
  unfold nextP
  rw [h2, if_pos (by decide)]
theorem next_frame_cut (d : List Int) (hd : d.length ≤ 200) (m : Nat) (hm : m < (Fx.frame d).length) : nextP ((Fx.frame d).take m) = .error 8 := by
  by_cases h : (Nx.put d.length).length ≤ m
  · exact next_cut d (by omega) m h hm
  · have : (Fx.frame d).take m = (Nx.put d.length).take m := by
      rw [frame_parts, List.take_append_of_le_length (by omega)]
    rw [this]
    exact next_put_cut _ _ hd (by omega)
theorem chain_of : ∀ (ds : List (List Int)), (∀ d ∈ ds, d.length ≤ 200) → ∀ (X : List Int) (q : Nat), X.length ≤ q → q ≤ X.length + (bOf ds).length → Chain (X ++ (bOf ds).take (q - X.length)) X.length (wh X.length ds q) 8
  | [], _, X, q, h1, h2 => by
    have : q = X.length := by simp [bOf] at h2; omega
    subst this
    simp only [wh, fe, List.zip_nil_left, List.takeWhile_nil, Nat.sub_self, List.take_zero, List.append_nil]
    refine ⟨Nat.le_refl _, ?_, by decide⟩
    rw [List.drop_length]
    exact next_nil
  | d :: ds, hd, X, q, h1, h2 => by
    have hd0 := hd d (by simp)
    have hfl := frame_length d
    by_cases h : X.length + (Fx.frame d).length ≤ q
    · have e1 : wh X.length (d :: ds) q = (X.length + (Fx.frame d).length, d) :: wh (X.length + (Fx.frame d).length) ds q := by
        simp only [wh, fe, List.zip_cons_cons, List.takeWhile_cons, decide_eq_true h, if_true]
      have e2 : (bOf (d :: ds)).take (q - X.length) = Fx.frame d ++ (bOf ds).take (q - (X.length + (Fx.frame d).length)) := by
        rw [bOf_cons, List.take_append, List.take_of_length_le (by omega)]
        congr 2
        omega
      rw [e1, e2]
      have ih := chain_of ds (fun x hx => hd x (by simp [hx])) (X ++ Fx.frame d) q (by simp; omega) (by rw [bOf_cons, List.length_append] at h2; simp; omega)
      rw [List.length_append] at ih
      rw [bOf_cons, List.length_append] at h2
      refine ⟨(Fx.frame d).length, ?_, by omega, ?_, rfl, ?_⟩
      · simp only [List.length_append, List.length_take]; omega
      · rw [List.drop_left, next_frame d _ (by omega), hfl]
      · rw [← List.append_assoc]
        exact ih
    · have e1 : wh X.length (d :: ds) q = [] := by
        simp only [wh, fe, List.zip_cons_cons, List.takeWhile_cons, decide_eq_false h]
        rfl
      have e2 : (bOf (d :: ds)).take (q - X.length) = (Fx.frame d).take (q - X.length) := by
        rw [bOf_cons, List.take_append_of_le_length (by omega)]
      rw [e1, e2]
      refine ⟨by simp, ?_, by decide⟩
      rw [List.drop_left]
      exact next_frame_cut d hd0 _ (by omega)
theorem endOf_at {ys : List (Nat × List Int)} {n' e : Nat} {d : List Int} (h : ys[n']? = some (e, d)) (hl : ys.length = n' + 1) : endOf ys = e := by
  unfold endOf
  rw [List.getLast?_eq_getElem?, hl, Nat.add_sub_cancel, h]
  rfl
theorem endOf_nil {ys : List (Nat × List Int)} (hl : ys.length = 0) : endOf ys = 0 := by
  rw [List.eq_nil_of_length_eq_zero hl]
  rfl
theorem bOf_le : ∀ (ds : List (List Int)), (∀ d ∈ ds, d.length ≤ 200) → (bOf ds).length ≤ ds.length * 300
  | [], _ => by simp [bOf]
  | d :: ds, h => by
    have h1 := bOf_le ds (fun x hx => h x (by simp [hx]))
    have h2 := h d (by simp)
    have h3 := frame_length d
    have h4 := Nx.put_len d.length (by omega)
    rw [bOf_cons, List.length_append, List.length_cons]
    omega
theorem bOf_len (ds : List (List Int)) (i : Nat) {n : Nat} (hn : n ≤ 10) (hi : i ≤ n) (h : ∀ d ∈ ds.take i, d.length ≤ 200) : (bOf (ds.take i)).length ≤ 3000 := by
  have h1 := bOf_le _ h
  have h2 : (ds.take i).length ≤ i := by simp; omega
  have : (ds.take i).length * 300 ≤ 10 * 300 := Nat.mul_le_mul_right _ (by omega)
  omega
end Go.Proofs.Ytanbbomdidefjaa
