/- Plain: words byte by byte are words rune by rune. -/
import Derived.Test.YtfjbelkpblgfiaaDoorWt
import Derived.Laws.RangeAny
import Derived.Laws.RangeString
namespace Go.Proofs.YtfjbelkpblgfiaaDoor
namespace Wx

/-- the words and the open word behind the first k bytes -/
def st (l : List Int) : Nat → List (List Int) × List Int
  | 0 => ([], [])
  | k + 1 => if blankB (l[k]?.getD 0) then (if (st l k).2 = [] then (st l k).1 else (st l k).1 ++ [(st l k).2], []) else ((st l k).1, (st l k).2 ++ [l[k]?.getD 0])
def words (l : List Int) : List (List Int) := if (st l l.length).2 = [] then (st l l.length).1 else (st l l.length).1 ++ [(st l l.length).2]
def slice (l : List Int) (x : Nat × Nat) : List Int := (l.take x.2).drop x.1
def opn (l : List Int) (pos : Nat) : Option Nat → List Int
  | none => []
  | some a => slice l (a, pos)

theorem slice_snoc (l : List Int) (a pos : Nat) (ha : a ≤ pos) (hp : pos < l.length) : slice l (a, pos + 1) = slice l (a, pos) ++ [l[pos]?.getD 0] := by
  unfold slice
  simp only
  rw [List.take_succ_eq_append_getElem hp, List.drop_append_of_le_length (by simp; omega), List.getElem?_eq_getElem hp, Option.getD_some]
theorem slice_self (l : List Int) (a : Nat) : slice l (a, a) = [] := by
  unfold slice
  simp only
  exact List.drop_eq_nil_of_le (by simp; omega)
theorem slice_ne (l : List Int) (a pos : Nat) (ha : a < pos) (hp : pos ≤ l.length) : slice l (a, pos) ≠ [] := by
  unfold slice
  intro h
  have := congrArg List.length h
  simp at this
  omega
theorem st_run (l : List Int) (pos : Nat) : ∀ n, pos + n ≤ l.length → (∀ j, pos ≤ j → j < pos + n → blankB (l[j]?.getD 0) = false) → st l (pos + n) = ((st l pos).1, (st l pos).2 ++ slice l (pos, pos + n))
  | 0, _, _ => by simp [slice_self]
  | n + 1, hn, hb => by
    have ih := st_run l pos n (by omega) (fun j h1 h2 => hb j h1 (by omega))
    rw [← Nat.add_assoc, st, hb (pos + n) (by omega) (by omega), ih, slice_snoc l pos (pos + n) (by omega) (by omega)]
    simp
theorem blank_hi {c : Int} (h : 128 ≤ c) : blankB c = false := by
  unfold blankB
  simp
  omega

theorem get_eq (s : ByteArray) (j : Nat) (h : j < s.size) : (s.get! j).toNat = (s[j]'h).toNat := by
  have : s.get! j = s[j]'h := by
    simp [ByteArray.get!, h]
    rfl
  rw [this]
theorem decode_tail (s : ByteArray) (pos : Nat) (h : pos < s.size) (ha : 128 ≤ (s[pos]'h).toNat) : pos + (Utf8.decode s pos).2 ≤ s.size ∧ ∀ j, pos ≤ j → j < pos + (Utf8.decode s pos).2 → ∃ hj : j < s.size, 128 ≤ (s[j]'hj).toNat := by
  have one : ∀ n, n = 1 → pos + n ≤ s.size ∧ ∀ j, pos ≤ j → j < pos + n → ∃ hj : j < s.size, 128 ≤ (s[j]'hj).toNat := by
    rintro n rfl
    refine ⟨by omega, fun j h1 h2 => ?_⟩
    obtain rfl : j = pos := by omega
    exact ⟨h, ha⟩
  have hc : ∀ k, (decide (pos + k < s.size) && (s.get! (pos + k)).toNat / 64 == 2) = true → ∃ hj : pos + k < s.size, 128 ≤ (s[pos + k]'hj).toNat := by
    intro k hk
    simp only [Bool.and_eq_true, decide_eq_true_eq, beq_iff_eq] at hk
    refine ⟨hk.1, ?_⟩
    have := get_eq s (pos + k) hk.1
    omega
  have fin : ∀ n, (∀ k, 0 < k → k < n → ∃ hj : pos + k < s.size, 128 ≤ (s[pos + k]'hj).toNat) → 0 < n → pos + n ≤ s.size ∧ ∀ j, pos ≤ j → j < pos + n → ∃ hj : j < s.size, 128 ≤ (s[j]'hj).toNat := by
    intro n hn h0
    have key : ∀ j, pos ≤ j → j < pos + n → ∃ hj : j < s.size, 128 ≤ (s[j]'hj).toNat := by
      intro j h1 h2
      rcases Nat.eq_or_lt_of_le h1 with e | e
      · subst e; exact ⟨h, ha⟩
      · have := hn (j - pos) (by omega) (by omega)
        rw [show pos + (j - pos) = j by omega] at this
        exact this
    refine ⟨?_, key⟩
    obtain ⟨hj, _⟩ := key (pos + n - 1) (by omega) (by omega)
    omega
  unfold Utf8.decode
  simp only
  split
  · exact one _ rfl
  · split
    · rename_i h2
      rw [Bool.and_eq_true] at h2
      split
      · exact fin 2 (fun k h1 h3 => by obtain rfl : k = 1 := by omega
                                       exact hc 1 h2.2) (by omega)
      · exact one _ rfl
    · split
      · rename_i h2
        rw [Bool.and_eq_true, Bool.and_eq_true] at h2
        split
        · exact fin 3 (fun k h1 h3 => by
            rcases (show k = 1 ∨ k = 2 by omega) with rfl | rfl
            · exact hc 1 h2.1.2
            · exact hc 2 h2.2) (by omega)
        · exact one _ rfl
      · split
        · rename_i h2
          rw [Bool.and_eq_true, Bool.and_eq_true, Bool.and_eq_true] at h2
          split
          · exact fin 4 (fun k h1 h3 => by
              rcases (show k = 1 ∨ k = 2 ∨ k = 3 by omega) with rfl | rfl | rfl
              · exact hc 1 h2.1.1.2
              · exact hc 2 h2.1.2
              · exact hc 3 h2.2) (by omega)
          · exact one _ rfl
        · exact one _ rfl

def Inv (l : List Int) (pos : Nat) (acc : List (Nat × Nat)) (o : Option Nat) : Prop :=
  st l pos = (acc.map (slice l), opn l pos o) ∧ ∀ a, o = some a → a < pos

theorem spans_inv (s : ByteArray) : ∀ (f pos : Nat) (o : Option Nat) (acc : List (Nat × Nat)), pos ≤ s.size → s.size ≤ pos + f → Inv (bs s) pos acc o →
    Inv (bs s) s.size (Lib.spansFromP blankN s f pos o acc).1 (Lib.spansFromP blankN s f pos o acc).2
  | 0, pos, o, acc, h1, h2, h => by
    obtain rfl : pos = s.size := by omega
    exact h
  | f + 1, pos, o, acc, h1, h2, h => by
    unfold Lib.spansFromP
    by_cases hp : pos < s.size
    · rw [if_pos hp]
      have hbl := bs_len s
      have hget : (bs s)[pos]?.getD 0 = ((s[pos]'hp).toNat : Int) := by rw [bs_get s pos hp]; rfl
      by_cases ha : (s[pos]'hp).toNat < 128
      · rw [decode_ascii s pos hp ha]
        simp only
        by_cases hb : blankN (s[pos]'hp).toNat = true
        · rw [if_pos hb]
          have hb' : blankB ((bs s)[pos]?.getD 0) = true := by rw [hget]; exact hb
          cases o with
          | none =>
            refine spans_inv s f (pos + 1) none acc (by omega) (by omega) ⟨?_, fun a e => by cases e⟩
            rw [st, hb', h.1]
            simp [opn]
          | some a =>
            refine spans_inv s f (pos + 1) none (acc ++ [(a, pos)]) (by omega) (by omega) ⟨?_, fun a e => by cases e⟩
            have hne := slice_ne (bs s) a pos (h.2 a rfl) (by omega)
            rw [st, hb', h.1]
            simp [opn, hne]
        · rw [if_neg hb]
          have hb' : blankB ((bs s)[pos]?.getD 0) = false := by rw [hget]; simpa [blankN] using hb
          cases o with
          | none =>
            refine spans_inv s f (pos + 1) (some pos) acc (by omega) (by omega) ⟨?_, fun a e => by cases e; omega⟩
            rw [st, hb', h.1]
            simp [opn, slice_snoc (bs s) pos pos (Nat.le_refl _) (by omega), slice_self]
          | some a =>
            have hal := h.2 a rfl
            refine spans_inv s f (pos + 1) (some a) acc (by omega) (by omega) ⟨?_, fun a e => by cases e; omega⟩
            rw [st, hb', h.1]
            simp [opn, slice_snoc (bs s) a pos (by omega) (by omega)]
      · have hhi := decode_high s pos hp (by omega)
        obtain ⟨ht1, ht2⟩ := decode_tail s pos hp (by omega)
        obtain ⟨⟨r, n⟩, hd⟩ : ∃ x, Utf8.decode s pos = x := ⟨_, rfl⟩
        rw [hd] at hhi ht1 ht2 ⊢
        simp only at hhi ht1 ht2 ⊢
        have hnb : blankN r = false := blank_hi (by omega)
        have hrun := st_run (bs s) pos n (by omega) (fun j h3 h4 => by
          obtain ⟨hj, h5⟩ := ht2 j h3 h4
          rw [bs_get s j hj]
          exact blank_hi (by simp; omega))
        rw [hnb]
        simp only [Bool.false_eq_true, if_false]
        cases o with
        | none =>
          refine spans_inv s f (pos + n) (some pos) acc (by omega) (by omega) ⟨?_, fun a e => by cases e; omega⟩
          rw [hrun, h.1]
          simp [opn]
        | some a =>
          have hal := h.2 a rfl
          refine spans_inv s f (pos + n) (some a) acc (by omega) (by omega) ⟨?_, fun a e => by cases e; omega⟩
          rw [hrun, h.1]
          simp only [opn, Prod.mk.injEq, true_and]
          unfold slice
          simp only
          have e : (bs s).take (pos + n) = (bs s).take pos ++ ((bs s).take (pos + n)).drop pos := by
            have := List.take_append_drop pos ((bs s).take (pos + n))
            rw [List.take_take, Nat.min_eq_left (by omega)] at this
            exact this.symm
          conv => rhs; rw [e]
          rw [List.drop_append_of_le_length (by simp; omega)]
    · rw [if_neg hp]
      obtain rfl : pos = s.size := by omega
      exact h

theorem fields_eq (s : ByteArray) : Lib.goFieldsP blankN s = (words (bs s)).map strOfNums := by
  have hi := spans_inv s s.size 0 none [] (by omega) (by omega) ⟨rfl, fun a e => by cases e⟩
  unfold Lib.goFieldsP Lib.spansOfP words
  obtain ⟨⟨acc, o⟩, hx⟩ : ∃ x, Lib.spansFromP blankN s s.size 0 none [] = x := ⟨_, rfl⟩
  rw [hx] at hi ⊢
  simp only at hi
  have hsl : ∀ x : Nat × Nat, s.extract x.1 x.2 = strOfNums (slice (bs s) x) := by
    intro x
    rw [← str_bs (s.extract x.1 x.2)]
    congr 1
    unfold bs slice
    rw [ByteArray.data_extract, Array.toList_extract]
    simp [List.extract_eq_take_drop, List.drop_take]
  have hmap : ∀ L : List (Nat × Nat), (L.map fun x => s.extract x.1 x.2) = (L.map (slice (bs s))).map strOfNums := by
    intro L
    rw [List.map_map]
    exact List.map_congr_left fun x _ => hsl x
  rw [bs_len, hi.1]
  cases o with
  | none =>
    simp only [opn, Lib.closeSpans, if_true]
    exact hmap acc
  | some a =>
    have hne := slice_ne (bs s) a s.size (hi.2 a rfl) (by rw [bs_len]; omega)
    simp only [opn, Lib.closeSpans, hne, if_false]
    rw [hmap (acc ++ [(a, s.size)]), List.map_append]
    rfl
end Wx
end Go.Proofs.YtfjbelkpblgfiaaDoor
