/- Parts of a path, plain: what stands between strokes. -/
import Derived.Test.YtbdmlenapccdnaaDoorPr
namespace Go.Proofs.YtbdmlenapccdnaaDoor
open Go.RowKit

/-- what stands between strokes -/
def sp : List UInt8 → List (List UInt8)
  | [] => [[]]
  | c :: l => if c = 47 then [] :: sp l else (match sp l with | h :: t => (c :: h) :: t | [] => [[c]])
theorem sp_ne : ∀ l, sp l ≠ []
  | [] => by simp [sp]
  | c :: l => by
    unfold sp
    split
    · simp
    · split <;> simp
theorem sp_cons {c : UInt8} (hc : c ≠ 47) (l : List UInt8) : ∃ h t, sp l = h :: t ∧ sp (c :: l) = (c :: h) :: t := by
  cases e : sp l with
  | nil => exact absurd e (sp_ne l)
  | cons h t => exact ⟨h, t, rfl, by unfold sp; rw [if_neg hc, e]⟩
theorem sp_app (m : List UInt8) : ∀ l, sp (l ++ 47 :: m) = sp l ++ sp m
  | [] => by simp [sp]
  | c :: l => by
    by_cases hc : c = 47
    · subst hc
      rw [List.cons_append, sp, if_pos rfl, sp_app m l, sp, if_pos rfl]
      rfl
    · obtain ⟨h, t, e1, e2⟩ := sp_cons hc l
      rw [e2, List.cons_append, sp, if_neg hc, sp_app m l, e1]
      rfl
theorem sp_split : ∀ l : List UInt8, Lib.splitK [47] 0 (Lib.count l [47]) l = sp l
  | [] => by
    have h : Lib.index [] [47] = -1 := rfl
    rw [Lib.count_miss h]
    rfl
  | c :: l => by
    have ih := sp_split l
    by_cases hc : c = 47
    · subst hc
      have h : Lib.index (47 :: l) [47] = ((0 : Nat) : Int) := by
        unfold Lib.index
        rw [if_pos (by simp)]
        rfl
      rw [Lib.count_hit (by simp) h]
      have e : (47 :: l).drop (0 + ([47] : List UInt8).length) = l := rfl
      rw [e, Nat.add_comm 1, Lib.splitK, if_neg (by rw [h]; decide), h]
      simp only [sp, if_true]
      rw [← ih]
      rfl
    · have hp : ([47] : List UInt8).isPrefixOf (c :: l) = false := by
        simp [List.isPrefixOf]
        exact fun e => hc e.symm
      obtain ⟨h, t, e1, e2⟩ := sp_cons hc l
      rw [e2]
      by_cases hm : Lib.index l [47] = -1
      · have hi : Lib.index (c :: l) [47] = -1 := by
          unfold Lib.index
          rw [hp, if_neg (by decide), if_pos (by rw [hm]; rfl)]
        rw [Lib.count_miss hi]
        rw [Lib.count_miss hm, e1] at ih
        have : [l] = h :: t := ih
        injection this with h1 h2
        subst h1 h2
        rfl
      · have hge := Lib.index_ge l [47]
        obtain ⟨i, hi0⟩ : ∃ i : Nat, Lib.index l [47] = (i : Int) := ⟨(Lib.index l [47]).toNat, by omega⟩
        have hi : Lib.index (c :: l) [47] = ((i + 1 : Nat) : Int) := by
          unfold Lib.index
          rw [hp, if_neg (by decide), if_neg (by rw [hi0]; first | (simp; done) | (simp; omega)), hi0]
          rfl
        rw [Lib.count_hit (by simp) hi]
        rw [Lib.count_hit (by simp) hi0] at ih
        have ed : (c :: l).drop (i + 1 + ([47] : List UInt8).length) = l.drop (i + ([47] : List UInt8).length) := rfl
        rw [ed]
        rw [Nat.add_comm 1, Lib.splitK, if_neg (by rw [hi0]; first | (simp; done) | (simp; omega)), hi0, e1] at ih
        rw [Nat.add_comm 1, Lib.splitK, if_neg (by rw [hi]; first | (simp; done) | (simp; omega)), hi]
        injection ih with h1 h2
        have ed2 : (c :: l).drop (((i + 1 : Nat) : Int).toNat + ([47] : List UInt8).length) = l.drop ((i : Int).toNat + ([47] : List UInt8).length) := rfl
        rw [ed2, h2]
        congr 1
        rw [← h1]
        rfl
/-- the library's parts are these -/
theorem partsL_sp (s : ByteArray) : (partsL s).map (·.data.toList) = sp s.data.toList := by
  unfold partsL
  rw [Lib.splitB_data]
  exact sp_split s.data.toList
theorem partsL_of {s : ByteArray} {L : List ByteArray} (h : L.map (·.data.toList) = sp s.data.toList) : partsL s = L := by
  have h1 := partsL_sp s
  rw [← h] at h1
  have inj : ∀ (a b : List ByteArray), a.map (·.data.toList) = b.map (·.data.toList) → a = b := by
    intro a
    induction a with
    | nil => intro b e; cases b with
      | nil => rfl
      | cons y b => cases e
    | cons x a ih => intro b e; cases b with
      | nil => cases e
      | cons y b =>
        injection e with e1 e2
        rw [ih b e2, ByteArray.ext (Array.toList_inj.1 e1)]
  exact inj _ _ h1
/-- two, with a stroke between -/
def joinS (a b : ByteArray) : ByteArray := ⟨(a.data.toList ++ 47 :: b.data.toList).toArray⟩
theorem partsL_join (a b : ByteArray) : partsL (joinS a b) = partsL a ++ partsL b := by
  apply partsL_of
  rw [List.map_append, partsL_sp, partsL_sp]
  show _ = sp (a.data.toList ++ 47 :: b.data.toList)
  rw [sp_app]
theorem right_join (a b : ByteArray) : rightB (joinS a b) = (rightB a && rightB b && decide ((joinS a b).size ≤ 200) && decide ((partsL (joinS a b)).length ≤ 16)) := by
  have hs : (joinS a b).size = a.size + 1 + b.size := by
    show (a.data.toList ++ 47 :: b.data.toList).toArray.size = a.data.size + 1 + b.data.size
    rw [List.size_toArray, List.length_append, List.length_cons, Array.length_toList, Array.length_toList]
    omega
  unfold rightB
  rw [partsL_join, List.length_append, List.all_append, hs, Bool.eq_iff_iff]
  simp
  constructor
  · rintro ⟨⟨h1, h2⟩, h3, h4⟩
    refine ⟨⟨⟨⟨⟨?_, ?_⟩, h3⟩, ⟨?_, ?_⟩, h4⟩, h1⟩, h2⟩ <;> omega
  · rintro ⟨⟨⟨⟨_, h3⟩, _, h4⟩, h1⟩, h2⟩
    exact ⟨⟨h1, h2⟩, h3, h4⟩

/-- a part begins with a low line -/
def low (p : List UInt8) : Bool := p.head? == some 95
theorem hid_sp : ∀ l : List UInt8, Lib.contains l [47, 95] = (sp l).tail.any low ∧ Lib.hasPrefix l [95] = ((sp l).head?.map low).getD false
  | [] => ⟨rfl, rfl⟩
  | c :: l => by
    obtain ⟨ih1, ih2⟩ := hid_sp l
    have hge := Lib.index_ge l [47, 95]
    by_cases hc : c = 47
    · subst hc
      have e : sp (47 :: l) = [] :: sp l := by rw [sp, if_pos rfl]
      rw [e]
      refine ⟨?_, rfl⟩
      have hany : (sp l).any low = (((sp l).head?.map low).getD false || (sp l).tail.any low) := by
        cases hs : sp l with
        | nil => exact absurd hs (sp_ne l)
        | cons h t => rfl
      rw [List.tail_cons, hany, ← ih1, ← ih2]
      have hp : ([47, 95] : List UInt8).isPrefixOf (47 :: l) = Lib.hasPrefix l [95] := by
        unfold Lib.hasPrefix
        simp [List.isPrefixOf]
      unfold Lib.contains
      rw [Bool.eq_iff_iff]
      conv => lhs; unfold Lib.index
      rw [hp]
      cases Lib.hasPrefix l [95]
      · simp only [Bool.false_eq_true, if_false, Bool.false_or, decide_eq_true_eq]
        split
        · rename_i h; have := beq_iff_eq.1 h; omega
        · rename_i h; have : ¬ Lib.index l [47, 95] = -1 := fun e => h (beq_iff_eq.2 e); omega
      · simp
    · obtain ⟨h, t, e1, e2⟩ := sp_cons hc l
      rw [e2]
      rw [e1] at ih1
      refine ⟨?_, ?_⟩
      · rw [List.tail_cons]
        rw [List.tail_cons] at ih1
        rw [← ih1]
        have hp : ([47, 95] : List UInt8).isPrefixOf (c :: l) = false := by
          simp [List.isPrefixOf]
          exact fun e => absurd e.symm hc
        unfold Lib.contains
        rw [Bool.eq_iff_iff]
        conv => lhs; unfold Lib.index
        rw [hp]
        simp only [Bool.false_eq_true, if_false, decide_eq_true_eq]
        split
        · rename_i h; have := beq_iff_eq.1 h; omega
        · rename_i h; have : ¬ Lib.index l [47, 95] = -1 := fun e => h (beq_iff_eq.2 e); omega
      · unfold Lib.hasPrefix low
        simp [List.isPrefixOf]
        rw [Bool.eq_iff_iff]
        simp
        exact ⟨fun e => e.symm, fun e => e.symm⟩
theorem hidB_sp (s : ByteArray) : hidB s = (sp s.data.toList).any low := by
  obtain ⟨h1, h2⟩ := hid_sp s.data.toList
  unfold hidB
  rw [h1, h2]
  cases hs : sp s.data.toList with
  | nil => exact absurd hs (sp_ne _)
  | cons h t => rfl
theorem hid_join (a b : ByteArray) : hidB (joinS a b) = (hidB a || hidB b) := by
  rw [hidB_sp, hidB_sp, hidB_sp, ← List.any_append, ← sp_app]
  rfl

end Go.Proofs.YtbdmlenapccdnaaDoor
