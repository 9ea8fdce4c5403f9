/- Frames that are cut, or turned, plain. -/
import Derived.Test.YtanbbomdidefjaaFn
namespace Go.Proofs.Ytanbbomdidefjaa
open Go.RowKit

theorem lenOf_put (n : Nat) (hn : n ≤ 2097152) (r : List Int) : lenOf (Nx.put n ++ r) = (n, (Nx.put n).length, 0) := by
  have hl := Nx.put_len n (by omega)
  have h1 : (Nx.put n ++ r).take 10 = Nx.put n ++ r.take (10 - (Nx.put n).length) := by
    rw [List.take_append, List.take_of_length_le hl]
  have h2 := Nx.first_put n (by omega) (r.take (10 - (Nx.put n).length))
  unfold lenOf
  rw [h1, h2]
  simp only
  rw [if_neg (by decide), if_neg (by omega)]
theorem next_short (n : Nat) (hn : n ≤ 2097152) (r : List Int) (hr : r.length < 4 + n) : nextP (Nx.put n ++ r) = .error 8 := by
  unfold nextP
  rw [lenOf_put n hn r]
  simp only
  rw [if_neg (by decide), if_pos (by rw [List.length_append]; omega)]
theorem next_parts (q d : List Int) (hq : q.length = 4) (hd : d.length ≤ 2097152) (r : List Int) : nextP (Nx.put d.length ++ (q ++ d ++ r)) = if q = Fx.four (Fx.sum d) then .ok (d, (Nx.put d.length).length + 4 + d.length) else .error 12 := by
  unfold nextP
  rw [lenOf_put d.length hd _]
  simp only
  rw [if_neg (by decide), if_neg (by simp; omega)]
  have e1 : ((Nx.put d.length ++ (q ++ d ++ r)).drop (Nx.put d.length).length).take 4 = q := by
    rw [List.drop_left, List.append_assoc, ← hq, List.take_left]
  have e2 : ((Nx.put d.length ++ (q ++ d ++ r)).drop ((Nx.put d.length).length + 4)).take d.length = d := by
    rw [← List.drop_drop, List.drop_left, List.append_assoc, ← hq, List.drop_left, List.take_left]
  rw [e1, e2]
theorem frame_parts (d : List Int) : Fx.frame d = Nx.put d.length ++ (Fx.four (Fx.sum d) ++ d ++ []) := by
  unfold Fx.frame
  simp
theorem four_len (s : Nat) : (Fx.four s).length = 4 := rfl
theorem next_frame (d r : List Int) (hd : d.length ≤ 2097152) : nextP (Fx.frame d ++ r) = .ok (d, (Nx.put d.length).length + 4 + d.length) := by
  have e : Fx.frame d ++ r = Nx.put d.length ++ (Fx.four (Fx.sum d) ++ d ++ r) := by unfold Fx.frame; simp
  rw [e, next_parts _ d (four_len _) hd r, if_pos rfl]
/-- cut behind its length -/
theorem next_cut (d : List Int) (hd : d.length ≤ 2097152) (k : Nat) (h1 : (Nx.put d.length).length ≤ k) (h2 : k < (Fx.frame d).length) : nextP ((Fx.frame d).take k) = .error 8 := by
  rw [frame_parts] at h2 ⊢
  rw [List.take_append, List.take_of_length_le h1]
  apply next_short d.length hd
  rw [List.length_take]
  simp [four_len] at h2 ⊢
  omega
/-- one byte behind its length turned -/
theorem next_turn (d : List Int) (h8 : Byte8 d) (hd : d.length ≤ 2097152) (k : Nat) (x : Int) (hx : 0 ≤ x ∧ x ≤ 255) (h1 : (Nx.put d.length).length ≤ k) (h2 : k < (Fx.frame d).length) (hne : (Fx.frame d)[k]? ≠ some x) : nextP ((Fx.frame d).set k x) = .error 12 := by
  obtain ⟨p, hp⟩ : ∃ p, Nx.put d.length = p := ⟨_, rfl⟩
  obtain ⟨q, hq⟩ : ∃ q, Fx.four (Fx.sum d) = q := ⟨_, rfl⟩
  have hql : q.length = 4 := by rw [← hq]; rfl
  rw [frame_parts, hp, hq] at h2 hne ⊢
  rw [hp] at h1
  rw [List.append_nil] at h2 hne ⊢
  rw [List.length_append, List.length_append] at h2
  rw [List.getElem?_append_right h1] at hne
  rw [List.set_append_right _ _ h1]
  obtain ⟨j, hj⟩ : ∃ j, k - p.length = j := ⟨_, rfl⟩
  rw [hj] at hne ⊢
  by_cases hjq : j < 4
  · rw [List.getElem?_append_left (by omega)] at hne
    rw [List.set_append_left _ _ (by omega), ← hp]
    have := next_parts (q.set j x) d (by simp [hql]) hd []
    rw [List.append_nil] at this
    rw [this, if_neg]
    intro e
    rw [hq] at e
    have : q[j]? = some x := by
      rw [← e, List.getElem?_set_self (by omega)]
    exact hne this
  · rw [List.getElem?_append_right (by omega)] at hne
    rw [List.set_append_right _ _ (by omega), ← hp]
    obtain ⟨i, hi⟩ : ∃ i, j - q.length = i := ⟨_, rfl⟩
    rw [hi] at hne ⊢
    have hil : i < d.length := by omega
    have := next_parts q (d.set i x) hql (by simpa using hd) []
    rw [List.append_nil, List.length_set] at this
    rw [this, if_neg]
    intro e
    have hs : Fx.sum d = Fx.sum (d.set i x) := Fx.four_inj (Fx.sum_lt _) (Fx.sum_lt _) (by rw [hq]; exact e)
    obtain ⟨c, hc⟩ : ∃ c, d[i]? = some c := ⟨_, List.getElem?_eq_getElem hil⟩
    have e1 : d = d.take i ++ c :: d.drop (i + 1) := by
      rw [List.getElem?_eq_getElem hil] at hc
      injection hc with hc
      rw [← hc, ← List.drop_eq_getElem_cons hil, List.take_append_drop]
    have e2 : d.set i x = d.take i ++ x :: d.drop (i + 1) := List.set_eq_take_append_cons_drop.trans (by rw [if_pos hil])
    rw [e2] at hs
    have hc8 := h8 c (List.mem_of_getElem? hc)
    refine Fx.sum_turn (d.take i) (d.drop (i + 1)) (c := c) (d := x) (by omega) (by omega) (fun y hy => ?_) ?_ (by rw [← e1]; exact hs)
    · have := h8 y (List.mem_of_mem_drop hy)
      omega
    · intro h
      apply hne
      rw [hc]
      congr 1
      omega

end Go.Proofs.Ytanbbomdidefjaa
