/- Lines, and the mark in front: the plain side of Decode. -/
import Derived.Test.YtdoglpaggmdnpaaTx
namespace Go.Proofs.Ytdoglpaggmdnpaa
namespace Tx

def lnStep (st : List Int × Bool) (r : Int) : List Int × Bool :=
  if r = 13 then (st.1 ++ [10], true) else if r = 10 ∧ st.2 = true then (st.1, false) else (st.1 ++ [r], false)
/-- each end of a line as one -/
def lnF (rs : List Int) : List Int × Bool := rs.foldl lnStep ([], false)
theorem lnF_snoc (rs : List Int) (r : Int) : lnF (rs ++ [r]) = lnStep (lnF rs) r := by simp [lnF, List.foldl_append]
theorem lnF_flag (rs : List Int) (r : Int) : (lnF (rs ++ [r])).2 = decide (r = 13) := by
  rw [lnF_snoc]
  unfold lnStep
  (repeat' split) <;> simp_all
theorem lnF_no13 (rs : List Int) : ∀ x ∈ (lnF rs).1, x ≠ 13 := by
  have : ∀ (rs : List Int) (st : List Int × Bool), (∀ x ∈ st.1, x ≠ 13) → ∀ x ∈ (rs.foldl lnStep st).1, x ≠ 13 := by
    intro rs
    induction rs with
    | nil => intro st h; exact h
    | cons r rs ih =>
      intro st h
      rw [List.foldl_cons]
      refine ih _ ?_
      intro x hx
      unfold lnStep at hx
      split at hx
      · simp at hx
        rcases hx with hx | hx
        · exact h x hx
        · omega
      · split at hx
        · exact h x hx
        · simp at hx
          rcases hx with hx | hx
          · exact h x hx
          · omega
  exact this rs ([], false) (by simp)
theorem lnF_len (rs : List Int) : (lnF rs).1.length ≤ rs.length := by
  have : ∀ (rs : List Int) (st : List Int × Bool), (rs.foldl lnStep st).1.length ≤ st.1.length + rs.length := by
    intro rs
    induction rs with
    | nil => intro st; simp
    | cons x xs ih =>
      intro st
      have h1 := ih (lnStep st x)
      have h2 : (lnStep st x).1.length ≤ st.1.length + 1 := by
        unfold lnStep
        (repeat' split) <;> simp
      simp only [List.foldl_cons, List.length_cons]
      omega
  simpa [lnF] using this rs ([], false)

theorem rest_pos (b : List Int) : ∀ (k p : Nat), b.length - p ≤ k → ∀ x ∈ rest b p, p ≤ x.1
  | 0, p, h => by rw [rest_end b p (by omega)]; simp
  | k + 1, p, h => by
    by_cases hp : p < b.length
    · rw [rest_step b p hp]
      have h1 := one_le b p hp
      have ih := rest_pos b k (p + (one (b.drop p)).2) (by omega)
      intro x hx
      simp only [List.mem_cons] at hx
      rcases hx with rfl | hx
      · simp
      · have := ih x hx; omega
    · rw [rest_end b p hp]; simp
/-- the signs do not hang on what stands ahead of them -/
theorem rest_shift (b : List Int) (q : Nat) : ∀ (k p : Nat), b.length - (q + p) ≤ k → (rest b (q + p)).map Prod.snd = (rest (b.drop q) p).map Prod.snd
  | 0, p, h => by rw [rest_end b _ (by omega), rest_end (b.drop q) p (by simp; omega)]
  | k + 1, p, h => by
    by_cases hp : q + p < b.length
    · have hp' : p < (b.drop q).length := by simp; omega
      have h1 := one_le b (q + p) hp
      have hd : (b.drop q).drop p = b.drop (q + p) := by rw [List.drop_drop]
      rw [rest_step b _ hp, rest_step (b.drop q) p hp', hd, List.map_cons, List.map_cons, Nat.add_assoc, rest_shift b q k _ (by omega)]
    · rw [rest_end b _ hp, rest_end (b.drop q) p (by simp; omega)]

/-- where no mark stands in front, Decode is its signs' lines -/
theorem dec_plain : ∀ (xs : List (Nat × Int)) (st : List Int × Bool), (∀ x ∈ xs, ¬ (x.1 = 0 ∧ x.2 = 65279)) → xs.foldl decStep st = (xs.map Prod.snd).foldl lnStep st
  | [], _, _ => rfl
  | x :: xs, st, h => by
    have hx := h x (by simp)
    have e : decStep st x = lnStep st x.2 := by
      unfold decStep lnStep
      rw [if_neg hx]
    rw [List.foldl_cons, List.map_cons, List.foldl_cons, e, dec_plain xs _ (fun y hy => h y (by simp [hy]))]

theorem bom_bytes (b : List Int) (hb : ∀ x ∈ b, 0 ≤ x ∧ x ≤ 255) (h : (one b).1 = 65279) : ∃ r, b = 239 :: 187 :: 191 :: r := by
  cases b with
  | nil => simp [one] at h
  | cons c r =>
    have hc := hb c (by simp)
    simp only [one] at h
    split at h
    · simp at h; omega
    · split at h
      · simp at h
      · rename_i h1 h2
        unfold more at h h2
        split at h
        · cases r with
          | nil => simp [scan] at h
          | cons x r =>
            simp only [scan] at h
            split at h
            · simp at h
            · simp only at h
              have := lo_bd c
              have := hi_bd c
              unfold base at h
              split at h <;> omega
        · split at h
          · cases r with
            | nil => simp [scan] at h
            | cons x r =>
              simp only [scan] at h
              split at h
              · simp at h
              · cases r with
                | nil => simp [scan] at h
                | cons y r =>
                  simp only [scan] at h
                  split at h
                  · simp at h
                  · simp only at h
                    have := lo_bd c
                    have := hi_bd c
                    unfold base at h
                    have hx : c = 239 ∧ x = 187 ∧ y = 191 := by
                      split at h
                      · omega
                      · split at h <;> omega
                    obtain ⟨rfl, rfl, rfl⟩ := hx
                    exact ⟨r, rfl⟩
          · split at h
            · cases r with
              | nil => simp [scan] at h
              | cons x r =>
                simp only [scan] at h
                split at h
                · simp at h
                · cases r with
                  | nil => simp [scan] at h
                  | cons y r =>
                    simp only [scan] at h
                    split at h
                    · simp at h
                    · cases r with
                      | nil => simp [scan] at h
                      | cons z r =>
                        simp only [scan] at h
                        split at h
                        · simp at h
                        · simp only at h
                          have : c = 240 → lo c = 144 := by intro e; subst e; rfl
                          have := lo_bd c
                          have := hi_bd c
                          unfold base at h
                          split at h
                          · omega
                          · split at h
                            · omega
                            · exfalso
                              by_cases h240 : c = 240
                              · have h144 := ‹c = 240 → lo c = 144› h240
                                omega
                              · omega
            · simp_all
theorem one_bom (r : List Int) : one (239 :: 187 :: 191 :: r) = (65279, 3) := by
  simp [one, more, scan, lo, hi, base]

theorem decode_bom (r : List Int) : decode (239 :: 187 :: 191 :: r) = (lnF ((signs r).map Prod.snd)).1 := by
  have hs : signs (239 :: 187 :: 191 :: r) = (0, 65279) :: rest (239 :: 187 :: 191 :: r) 3 := by
    unfold signs
    rw [rest_step _ 0 (by simp), List.drop_zero, one_bom]
    rfl
  unfold decode decTo
  rw [hs, List.foldl_cons]
  have e : decStep ([], false) (0, 65279) = ([], false) := rfl
  rw [e, dec_plain _ _ (fun x hx => by
    have := rest_pos (239 :: 187 :: 191 :: r) _ 3 (Nat.le_refl _) x hx
    omega)]
  have := rest_shift (239 :: 187 :: 191 :: r) 3 _ 0 (Nat.le_refl _)
  simp only [Nat.add_zero] at this
  rw [this]
  rfl
theorem decode_nobom (b : List Int) (hb : ∀ x ∈ b, 0 ≤ x ∧ x ≤ 255) (h : ¬ ∃ r, b = 239 :: 187 :: 191 :: r) : decode b = (lnF ((signs b).map Prod.snd)).1 := by
  unfold decode decTo
  rw [dec_plain _ _ (fun x hx => ?_)]
  · rfl
  · rintro ⟨h0, h1⟩
    unfold signs at hx
    by_cases hp : 0 < b.length
    · rw [rest_step b 0 hp] at hx
      simp only [List.mem_cons] at hx
      rcases hx with rfl | hx
      · exact h (bom_bytes b hb (by simpa using h1))
      · have h2 := one_le b 0 hp
        have := rest_pos b _ _ (Nat.le_refl _) x hx
        omega
    · rw [rest_end b 0 hp] at hx
      simp at hx

theorem no13 {b : List Int} {rs : List Int} (h : decode b = (lnF rs).1) (k : Nat) : ((decode b)[k]?.getD 0 == 13) = false := by
  cases hk : (decode b)[k]? with
  | none => rfl
  | some x =>
    have := lnF_no13 rs x (by rw [← h]; exact List.mem_of_getElem? hk)
    simpa using this

end Tx
end Go.Proofs.Ytdoglpaggmdnpaa
