/- Signs written and read again. -/
import Derived.Test.YtdoglpaggmdnpaaTz
import Derived.Test.YtdoglpaggmdnpaaTt
namespace Go.Proofs.Ytdoglpaggmdnpaa
namespace Tx

/-- a number that is a sign -/
def Ok (n : Int) : Prop := 0 ≤ n ∧ n ≤ 1114111 ∧ (n < 55296 ∨ 57343 < n)
theorem san_ok (r : Int) : Ok (san r) := by unfold Ok san; split <;> omega
theorem san_of_ok {n : Int} (h : Ok n) : san n = n := by unfold Ok at h; unfold san; rw [if_neg (by omega)]

theorem one_enc0 (n : Int) (h : Ok n) (t : List Int) : one (enc0 n ++ t) = (n, (enc0 n).length) := by
  unfold Ok at h
  unfold enc0
  by_cases h1 : n < 128
  · rw [if_pos h1]
    simp [one, h1]
  · rw [if_neg h1]
    by_cases h2 : n < 2048
    · rw [if_pos h2]
      obtain ⟨c, hc⟩ : ∃ c, 192 + n / 64 = c := ⟨_, rfl⟩
      obtain ⟨x, hx⟩ : ∃ x, 128 + n % 64 = x := ⟨_, rfl⟩
      rw [hc, hx]
      have hm : more c = 1 := by unfold more; rw [if_pos (by omega)]
      have hlo : lo c = 128 := by unfold lo; rw [if_neg (by omega), if_neg (by omega)]
      have hhi : hi c = 191 := by unfold hi; rw [if_neg (by omega), if_neg (by omega)]
      have hba : base c = c - 192 := by unfold base; rw [if_pos (by omega)]
      simp only [List.cons_append, List.nil_append, one, hm, hlo, hhi, hba, scan]
      rw [if_neg (by omega), if_neg (by omega), if_neg (by omega)]
      simp only [List.length_cons, List.length_nil, Prod.mk.injEq, and_true]
      omega
    · rw [if_neg h2]
      by_cases h3 : n < 65536
      · rw [if_pos h3]
        obtain ⟨c, hc⟩ : ∃ c, 224 + n / 4096 = c := ⟨_, rfl⟩
        obtain ⟨x, hx⟩ : ∃ x, 128 + n / 64 % 64 = x := ⟨_, rfl⟩
        obtain ⟨y, hy⟩ : ∃ y, 128 + n % 64 = y := ⟨_, rfl⟩
        rw [hc, hx, hy]
        have hm : more c = 2 := by unfold more; rw [if_neg (by omega), if_pos (by omega)]
        have hlo : lo c ≤ x := by unfold lo; (repeat' split) <;> omega
        have hhi : x ≤ hi c := by unfold hi; (repeat' split) <;> omega
        have hba : base c = c - 224 := by unfold base; rw [if_neg (by omega), if_pos (by omega)]
        simp only [List.cons_append, List.nil_append, one, hm, hba, scan]
        rw [if_neg (by omega), if_neg (by omega), if_neg (by omega), if_neg (by omega)]
        simp only [List.length_cons, List.length_nil, Prod.mk.injEq, and_true]
        omega
      · rw [if_neg h3]
        obtain ⟨c, hc⟩ : ∃ c, 240 + n / 262144 = c := ⟨_, rfl⟩
        obtain ⟨x, hx⟩ : ∃ x, 128 + n / 4096 % 64 = x := ⟨_, rfl⟩
        obtain ⟨y, hy⟩ : ∃ y, 128 + n / 64 % 64 = y := ⟨_, rfl⟩
        obtain ⟨z, hz⟩ : ∃ z, 128 + n % 64 = z := ⟨_, rfl⟩
        rw [hc, hx, hy, hz]
        have hm : more c = 3 := by unfold more; rw [if_neg (by omega), if_neg (by omega), if_pos (by omega)]
        have hlo : lo c ≤ x := by unfold lo; (repeat' split) <;> omega
        have hhi : x ≤ hi c := by unfold hi; (repeat' split) <;> omega
        have hba : base c = c - 240 := by unfold base; rw [if_neg (by omega), if_neg (by omega)]
        simp only [List.cons_append, List.nil_append, one, hm, hba, scan]
        rw [if_neg (by omega), if_neg (by omega), if_neg (by omega), if_neg (by omega), if_neg (by omega)]
        simp only [List.length_cons, List.length_nil, Prod.mk.injEq, and_true]
        omega
theorem one_enc1 (r : Int) (t : List Int) : one (enc1 r ++ t) = (san r, (enc1 r).length) := one_enc0 (san r) (san_ok r) t

theorem signs_enc (rs : List Int) : (signs (encode rs)).map Prod.snd = rs.map san := by
  induction rs with
  | nil => rfl
  | cons r rs ih =>
    have he : encode (r :: rs) = enc1 r ++ encode rs := by simp [encode]
    have hl := enc1_len r
    rw [he]
    unfold signs
    rw [rest_step _ 0 (by simp; omega), List.drop_zero, one_enc1, List.map_cons, List.map_cons]
    have hs := rest_shift (enc1 r ++ encode rs) (enc1 r).length _ 0 (Nat.le_refl _)
    rw [Nat.add_zero, List.drop_left] at hs
    simp only [Nat.zero_add]
    rw [hs]
    exact congrArg (san r :: ·) ih

theorem enc0_bytes (n : Int) (h : Ok n) : ∀ x ∈ enc0 n, 0 ≤ x ∧ x ≤ 255 := by
  unfold Ok at h
  unfold enc0
  intro x hx
  split at hx
  · simp at hx; omega
  · split at hx
    · simp at hx; omega
    · split at hx
      · simp at hx; omega
      · simp at hx; omega
theorem encode_bytes (rs : List Int) : ∀ x ∈ encode rs, 0 ≤ x ∧ x ≤ 255 := by
  intro x hx
  simp only [encode, List.mem_flatMap] at hx
  obtain ⟨r, _, hx⟩ := hx
  exact enc0_bytes (san r) (san_ok r) x hx

theorem one_valid (b : List Int) (hb : ∀ x ∈ b, 0 ≤ x ∧ x ≤ 255) : Ok (one b).1 := by
  cases b with
  | nil => simp [one, Ok]
  | cons c r =>
    have hc := hb c (by simp)
    simp only [one]
    split
    · simp only [Ok]; omega
    · split
      · simp [Ok]
      · rename_i h1 h2
        have hm : more c = 1 ∧ 194 ≤ c ∧ c ≤ 223 ∨ more c = 2 ∧ 224 ≤ c ∧ c ≤ 239 ∨ more c = 3 ∧ 240 ≤ c ∧ c ≤ 244 := by
          unfold more at h2 ⊢
          split
          · left; omega
          · split
            · right; left; omega
            · split
              · right; right; omega
              · simp_all
        have hlo := lo_bd c
        have hhi := hi_bd c
        rcases hm with ⟨hm, ha, hb'⟩ | ⟨hm, ha, hb'⟩ | ⟨hm, ha, hb'⟩
        · rw [hm]
          have hba : base c = c - 192 := by unfold base; rw [if_pos (by omega)]
          cases r with
          | nil => simp [scan, Ok]
          | cons x r =>
            simp only [scan]
            split
            · simp [Ok]
            · simp only [Ok, hba]; omega
        · rw [hm]
          have hba : base c = c - 224 := by unfold base; rw [if_neg (by omega), if_pos (by omega)]
          have h237 : c = 237 → hi c = 159 := by intro e; subst e; rfl
          cases r with
          | nil => simp [scan, Ok]
          | cons x r =>
            simp only [scan]
            split
            · simp [Ok]
            · cases r with
              | nil => simp [scan, Ok]
              | cons y r =>
                simp only [scan]
                split
                · simp [Ok]
                · simp only [Ok, hba]
                  by_cases h7 : c = 237
                  · have := h237 h7; omega
                  · omega
        · rw [hm]
          have hba : base c = c - 240 := by unfold base; rw [if_neg (by omega), if_neg (by omega)]
          have h240 : c = 240 → lo c = 144 := by intro e; subst e; rfl
          have h244 : c = 244 → hi c = 143 := by intro e; subst e; rfl
          cases r with
          | nil => simp [scan, Ok]
          | cons x r =>
            simp only [scan]
            split
            · simp [Ok]
            · cases r with
              | nil => simp [scan, Ok]
              | cons y r =>
                simp only [scan]
                split
                · simp [Ok]
                · cases r with
                  | nil => simp [scan, Ok]
                  | cons z r =>
                    simp only [scan]
                    split
                    · simp [Ok]
                    · simp only [Ok, hba]
                      by_cases h4 : c = 244
                      · have := h244 h4; omega
                      · by_cases h0 : c = 240
                        · have := h240 h0; omega
                        · omega

theorem rest_valid (b : List Int) (hb : ∀ x ∈ b, 0 ≤ x ∧ x ≤ 255) : ∀ (k p : Nat), b.length - p ≤ k → ∀ x ∈ rest b p, Ok x.2
  | 0, p, h => by rw [rest_end b p (by omega)]; simp
  | k + 1, p, h => by
    by_cases hp : p < b.length
    · rw [rest_step b p hp]
      have h1 := one_le b p hp
      have ih := rest_valid b hb k (p + (one (b.drop p)).2) (by omega)
      intro x hx
      simp only [List.mem_cons] at hx
      rcases hx with rfl | hx
      · exact one_valid (b.drop p) (fun y hy => hb y (List.mem_of_mem_drop hy))
      · exact ih x hx
    · rw [rest_end b p hp]; simp
theorem lnF_valid (rs : List Int) (h : ∀ x ∈ rs, Ok x) : ∀ x ∈ (lnF rs).1, Ok x := by
  have : ∀ (rs : List Int) (st : List Int × Bool), (∀ x ∈ rs, Ok x) → (∀ x ∈ st.1, Ok x) → ∀ x ∈ (rs.foldl lnStep st).1, Ok x := by
    intro rs
    induction rs with
    | nil => intro st _ h; exact h
    | cons r rs ih =>
      intro st hr h
      rw [List.foldl_cons]
      refine ih _ (fun x hx => hr x (by simp [hx])) ?_
      have h10 : Ok 10 := by unfold Ok; omega
      intro x hx
      unfold lnStep at hx
      split at hx
      · simp at hx
        rcases hx with hx | hx
        · exact h x hx
        · rw [hx]; exact h10
      · split at hx
        · exact h x hx
        · simp at hx
          rcases hx with hx | hx
          · exact h x hx
          · rw [hx]; exact hr r (by simp)
  exact this rs ([], false) h (by simp)
theorem lnF_same : ∀ (rs : List Int) (st : List Int), (∀ x ∈ rs, x ≠ 13) → rs.foldl lnStep (st, false) = (st ++ rs, false)
  | [], st, _ => by simp
  | r :: rs, st, h => by
    have h1 := h r (by simp)
    have e : lnStep (st, false) r = (st ++ [r], false) := by
      unfold lnStep
      rw [if_neg h1, if_neg (by simp)]
    rw [List.foldl_cons, e, lnF_same rs _ (fun x hx => h x (by simp [hx]))]
    simp

/-- what was read is, written and read again, the same: where no mark stands in front -/
theorem decode_encode (ds : List Int) (hv : ∀ x ∈ ds, Ok x) (h13 : ∀ x ∈ ds, x ≠ 13) (h0 : ds[0]?.getD 0 ≠ 65279) : decode (encode ds) = ds := by
  have hsan : ds.map san = ds := by
    have : ds.map san = ds.map id := List.map_congr_left (fun x hx => san_of_ok (hv x hx))
    simpa using this
  rw [decode_nobom (encode ds) (encode_bytes ds), signs_enc, hsan]
  · unfold lnF
    rw [lnF_same ds [] h13]
    simp
  · rintro ⟨r, hr⟩
    cases ds with
    | nil => simp [encode] at hr
    | cons d ds =>
      have he : encode (d :: ds) = enc1 d ++ encode ds := by simp [encode]
      have h1 := one_enc1 d (encode ds)
      rw [← he, hr, one_bom] at h1
      have h2 := congrArg Prod.fst h1
      simp only at h2
      rw [san_of_ok (hv d (by simp))] at h2
      exact h0 (by simpa using h2.symm)

/-- the first sign stays the first -/
theorem decode_x (b : List Int) (hb : ∀ x ∈ b, 0 ≤ x ∧ x ≤ 255) : ∃ ds, decode (120 :: b) = 120 :: ds ∧ (∀ x ∈ ds, Ok x) ∧ (∀ x ∈ ds, x ≠ 13) := by
  have hB : ∀ x ∈ (120 :: b : List Int), 0 ≤ x ∧ x ≤ 255 := by
    intro x hx
    simp only [List.mem_cons] at hx
    rcases hx with rfl | hx
    · omega
    · exact hb x hx
  have hn : ¬ ∃ r, (120 :: b : List Int) = 239 :: 187 :: 191 :: r := by
    rintro ⟨r, hr⟩
    simp at hr
  have hd := decode_nobom (120 :: b) hB hn
  have hv := lnF_valid ((signs (120 :: b)).map Prod.snd) (fun x hx => by
    simp only [List.mem_map] at hx
    obtain ⟨y, hy, rfl⟩ := hx
    exact rest_valid (120 :: b) hB _ 0 (Nat.le_refl _) y hy)
  have h13 := lnF_no13 ((signs (120 :: b)).map Prod.snd)
  have hs : (signs (120 :: b)).map Prod.snd = 120 :: (rest (120 :: b) 1).map Prod.snd := by
    unfold signs
    rw [rest_step _ 0 (by simp), List.drop_zero]
    have : one (120 :: b) = (120, 1) := by simp [one]
    rw [this]
    rfl
  have hpre : ∀ (rs : List Int) (st : List Int × Bool), ∃ t, (rs.foldl lnStep st).1 = st.1 ++ t := by
    intro rs
    induction rs with
    | nil => intro st; exact ⟨[], by simp⟩
    | cons r rs ih =>
      intro st
      rw [List.foldl_cons]
      obtain ⟨t, ht⟩ := ih (lnStep st r)
      have : ∃ u, (lnStep st r).1 = st.1 ++ u := by
        unfold lnStep
        (repeat' split)
        · exact ⟨_, rfl⟩
        · exact ⟨[], by simp⟩
        · exact ⟨_, rfl⟩
      obtain ⟨u, hu⟩ := this
      exact ⟨u ++ t, by rw [ht, hu, List.append_assoc]⟩
  rw [hs] at hd hv h13
  unfold lnF at hd hv h13
  rw [List.foldl_cons] at hd hv h13
  have e : lnStep ([], false) 120 = ([120], false) := rfl
  rw [e] at hd hv h13
  obtain ⟨t, ht⟩ := hpre ((rest (120 :: b) 1).map Prod.snd) ([120], false)
  rw [ht] at hd hv h13
  exact ⟨t, hd, fun x hx => hv x (by simp [hx]), fun x hx => h13 x (by simp [hx])⟩

end Tx
end Go.Proofs.Ytdoglpaggmdnpaa
