/- What stands ahead of the last stroke, plain; a page's ending. -/
import Derived.Test.YtbdmlenapccdnaaDoorPv
import Derived.Test.YtbdmlenapccdnaaDoorPz
namespace Go.Proofs.YtbdmlenapccdnaaDoor
open Go.RowKit

def flat (L : List ByteArray) : List UInt8 := L.flatMap (fun p => p.data.toList ++ [47])
theorem flat_len {B : Nat} : ∀ (L : List ByteArray), (∀ p ∈ L, p.size ≤ B) → (flat L).length ≤ L.length * (B + 1)
  | [], _ => by simp [flat]
  | p :: L, h => by
    have ih := flat_len L (fun q hq => h q (by simp [hq]))
    have hp := h p (by simp)
    have h4 : p.data.toList.length = p.size := Array.length_toList
    have e : flat (p :: L) = (p.data.toList ++ [47]) ++ flat L := rfl
    have e2 : (p :: L).length * (B + 1) = L.length * (B + 1) + (B + 1) := by rw [List.length_cons, Nat.add_mul, Nat.one_mul]
    rw [e, e2, List.length_append, List.length_append]
    simp only [List.length_cons, List.length_nil]
    omega
theorem sp_back : ∀ l : List UInt8, (sp l).dropLast.flatMap (· ++ [47]) ++ ((sp l).getLast?).getD [] = l
  | [] => rfl
  | c :: l => by
    have ih := sp_back l
    by_cases hc : c = 47
    · subst hc
      have e : sp (47 :: l) = [] :: sp l := by rw [sp, if_pos rfl]
      rw [e]
      cases hs : sp l with
      | nil => exact absurd hs (sp_ne l)
      | cons h t =>
        rw [hs] at ih
        simp only [List.dropLast_cons_cons, List.flatMap_cons, List.getLast?_cons_cons] at ih ⊢
        rw [List.append_assoc, ih]
        rfl
    · obtain ⟨h, t, e1, e2⟩ := sp_cons hc l
      rw [e2]
      rw [e1] at ih
      cases t with
      | nil =>
        simp at ih ⊢
        exact ih
      | cons h2 t2 =>
        simp only [List.dropLast_cons_cons, List.flatMap_cons, List.getLast?_cons_cons, List.cons_append] at ih ⊢
        rw [← ih]
theorem sp_no : ∀ (l : List UInt8) (p : List UInt8), p ∈ sp l → (47 : UInt8) ∉ p
  | [], p, h => by simp [sp] at h; simp [h]
  | c :: l, p, h => by
    by_cases hc : c = 47
    · subst hc
      rw [sp, if_pos rfl] at h
      rcases List.mem_cons.1 h with h | h
      · simp [h]
      · exact sp_no l p h
    · obtain ⟨x, t, e1, e2⟩ := sp_cons hc l
      rw [e2] at h
      have ih := sp_no l
      rw [e1] at ih
      rcases List.mem_cons.1 h with h | h
      · rw [h]
        simp only [List.mem_cons, not_or]
        exact ⟨fun e => hc e.symm, ih x (by simp)⟩
      · exact ih p (by simp [h])
theorem last_hit {l : List UInt8} {i : Nat} (h : Lib.lastIndex l [47] = (i : Int)) : l[i]? = some 47 := by
  unfold Lib.lastIndex at h
  split at h
  · rcases Lib.lastOcc_spec l [47] (l.length - [(47 : UInt8)].length + 1) with ⟨h1, _⟩ | ⟨k, _, h2, h3, _⟩
    · omega
    · rw [h2] at h
      obtain rfl : k = i := by omega
      exact occ_at.1 h3
  · omega
theorem ends47 : ∀ (L : List (List UInt8)), L ≠ [] → ∃ x, L.flatMap (· ++ [47]) = x ++ [47]
  | [], h => absurd rfl h
  | [p], _ => ⟨p, by simp⟩
  | p :: q :: L, _ => by
    obtain ⟨x, hx⟩ := ends47 (q :: L) (by simp)
    exact ⟨p ++ [47] ++ x, by rw [List.flatMap_cons, hx]; simp⟩
theorem last_is (l : List UInt8) : (Lib.lastIndex l [47] + 1).toNat = ((sp l).dropLast.flatMap (· ++ [47])).length := by
  have hb := sp_back l
  have hge : -1 ≤ Lib.lastIndex l [47] := by
    unfold Lib.lastIndex
    split
    · rcases Lib.lastOcc_spec l [47] (l.length - [(47 : UInt8)].length + 1) with ⟨h1, _⟩ | ⟨k, _, h2, _⟩ <;> omega
    · omega
  have hbeh := last_behind l
  have hlm : ((sp l).getLast?).getD [] ∈ sp l := by
    have : ((sp l).getLast?).getD [] ∈ (sp l).dropLast ++ [((sp l).getLast?).getD []] := by simp
    rwa [sp_last] at this
  have hno := sp_no l _ hlm
  generalize hE : ((sp l).getLast?).getD [] = E at *
  obtain ⟨J, hJ⟩ : ∃ J, (sp l).dropLast.flatMap (· ++ [47]) = J := ⟨_, rfl⟩
  have hend : J = [] ∨ ∃ x, J = x ++ [47] := by
    by_cases h0 : (sp l).dropLast = []
    · left; rw [← hJ, h0]; rfl
    · right; obtain ⟨x, hx⟩ := ends47 _ h0; exact ⟨x, by rw [← hJ, hx]⟩
  rw [hJ] at hb ⊢
  have hnb : ∀ j : Nat, J.length ≤ j → l[j]? ≠ some 47 := by
    intro j hj e
    rw [← hb, List.getElem?_append_right hj] at e
    exact hno (List.mem_of_getElem? e)
  have h1 : (Lib.lastIndex l [47] + 1).toNat ≤ J.length := by
    rcases Nat.lt_or_ge J.length (Lib.lastIndex l [47] + 1).toNat with h | h
    · exfalso
      obtain ⟨i, hi⟩ : ∃ i : Nat, Lib.lastIndex l [47] = (i : Int) := ⟨(Lib.lastIndex l [47]).toNat, by omega⟩
      exact hnb i (by omega) (last_hit hi)
    · exact h
  have h2 : J.length ≤ (Lib.lastIndex l [47] + 1).toNat := by
    rcases hend with rfl | ⟨x, rfl⟩
    · simp
    · rcases Nat.lt_or_ge (Lib.lastIndex l [47] + 1).toNat (x ++ [47]).length with h | h
      · exfalso
        have h3 : (Lib.lastIndex l [47] + 1).toNat ≤ x.length := by simp at h; omega
        apply hbeh x.length h3
        rw [← hb]
        simp
      · exact h
  omega
theorem dir_flat (s : ByteArray) : dirB s = ⟨(flat (partsL s).dropLast).toArray⟩ := by
  have h1 : flat (partsL s).dropLast = (sp s.data.toList).dropLast.flatMap (· ++ [47]) := by
    rw [← partsL_sp, ← List.map_dropLast, List.flatMap_map]
    rfl
  have h2 := sp_back s.data.toList
  unfold dirB
  rw [last_is s.data.toList, ← h1]
  rw [← h1] at h2
  apply ByteArray.ext
  apply Array.toList_inj.1
  rw [ByteArray.data_extract, Array.toList_extract, List.extract_eq_take_drop, List.drop_zero, Nat.sub_zero]
  show s.data.toList.take _ = flat (partsL s).dropLast
  conv => lhs; rw [← h2]
  exact List.take_left
/-- hidden, by the parts -/
theorem hid_parts (s : ByteArray) : hidB s = (partsL s).any (fun p => low p.data.toList) := by
  rw [hidB_sp, ← partsL_sp, List.any_map]
  rfl
def html : List UInt8 := [46, 104, 116, 109, 108]
theorem html_long {s : ByteArray} (h : 5 ≤ s.size) : Lib.hasSuffix s.data.toList html = ((s.extract (s.size - 5) s.size).toList == html) := by
  have h3 : s.data.toList.length = s.size := Array.length_toList
  have e : (s.extract (s.size - 5) s.size).toList = s.data.toList.drop (s.size - 5) := by
    rw [ByteArray.toList_eq, ByteArray.data_extract, Array.toList_extract, List.extract_eq_take_drop]
    apply List.take_of_length_le
    rw [List.length_drop]
    omega
  rw [e, Bool.eq_iff_iff]
  unfold Lib.hasSuffix
  rw [List.isSuffixOf_iff_suffix, List.suffix_iff_eq_drop, beq_iff_eq, h3]
  exact ⟨fun h => h.symm, fun h => h.symm⟩
theorem html_short {s : ByteArray} (h : s.size < 5) : Lib.hasSuffix s.data.toList html = false := by
  have h3 : s.data.toList.length = s.size := Array.length_toList
  cases hh : Lib.hasSuffix s.data.toList html
  · rfl
  · unfold Lib.hasSuffix at hh
    have := (List.isSuffixOf_iff_suffix.1 hh).length_le
    simp only [html, List.length_cons, List.length_nil] at this
    omega

end Go.Proofs.YtbdmlenapccdnaaDoor
