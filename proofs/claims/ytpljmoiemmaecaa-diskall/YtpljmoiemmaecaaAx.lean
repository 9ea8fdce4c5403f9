/- Files as a list in order, plain: looked up, put, taken out; how many bytes. -/
import Derived.Test.YtpljmoiemmaecaaDnw
namespace Go.Proofs.Ytpljmoiemmaecaa
open Go.RowKit

abbrev Fl := List (ByteArray × List Int)
def bl (x y : ByteArray) : Prop := x.data.toList < y.data.toList
instance (x y : ByteArray) : Decidable (bl x y) := inferInstanceAs (Decidable (x.data.toList < y.data.toList))
theorem bl_irr (x : ByteArray) : ¬ bl x x := fun h => List.lt_irrefl _ h
theorem bl_trans {x y z : ByteArray} (h : bl x y) (h' : bl y z) : bl x z := List.lt_trans h h'
theorem bl_tri {x y : ByteArray} (h : ¬ bl x y) (h' : x ≠ y) : bl y x := by
  rcases (List.le_total x.data.toList y.data.toList) with hl | hl
  · exact absurd (List.le_antisymm hl (List.not_lt.1 h)) (fun e => h' (ByteArray.ext (Array.toList_inj.1 e)))
  · by_cases hb : bl y x
    · exact hb
    · exact absurd (List.le_antisymm (List.not_lt.1 hb) (List.not_lt.1 h)) (fun e => h' (ByteArray.ext (Array.toList_inj.1 e)))
theorem bl_ne {x y : ByteArray} (h : bl x y) : x ≠ y := by rintro rfl; exact bl_irr _ h
theorem bl_asym {x y : ByteArray} (h : bl x y) : ¬ bl y x := fun h' => bl_irr _ (bl_trans h h')

/-- in order, each name once -/
def Srt (L : Fl) : Prop := L.Pairwise (fun a b => bl a.1 b.1)
def lk : Fl → ByteArray → Option (List Int)
  | [], _ => none
  | (y, c) :: L, x => if bl y x then lk L x else if y = x then some c else none
def put : Fl → ByteArray → List Int → Fl
  | [], x, b => [(x, b)]
  | (y, c) :: L, x, b => if bl y x then (y, c) :: put L x b else if y = x then (x, b) :: L else (x, b) :: (y, c) :: L
def del : Fl → ByteArray → Fl
  | [], _ => []
  | (y, c) :: L, x => if bl y x then (y, c) :: del L x else if y = x then L else (y, c) :: L
def used : Fl → Nat
  | [] => 0
  | (_, c) :: L => c.length + used L

theorem lk_lt : ∀ {L : Fl} {x : ByteArray}, (∀ a ∈ L, bl x a.1) → lk L x = none
  | [], _, _ => rfl
  | (y, c) :: L, x, h => by
    have h1 : bl x y := h (y, c) (by simp)
    simp only [lk]
    rw [if_neg (bl_asym h1), if_neg (fun e => bl_ne h1 e.symm)]
theorem lk_mem : ∀ {L : Fl} {x : ByteArray} {c : List Int}, lk L x = some c → (x, c) ∈ L
  | [], _, _, h => by cases h
  | (y, d) :: L, x, c, h => by
    simp only [lk] at h
    split at h
    · exact List.mem_cons_of_mem _ (lk_mem h)
    · split at h
      · rename_i e; cases h; cases e; exact List.mem_cons_self
      · cases h
theorem Srt.tail {a : ByteArray × List Int} {L : Fl} (h : Srt (a :: L)) : Srt L := (List.pairwise_cons.1 h).2
theorem Srt.head {a : ByteArray × List Int} {L : Fl} (h : Srt (a :: L)) : ∀ b ∈ L, bl a.1 b.1 := (List.pairwise_cons.1 h).1
theorem mem_lk : ∀ {L : Fl} {x : ByteArray} {c : List Int}, Srt L → (x, c) ∈ L → lk L x = some c
  | [], _, _, _, h => by cases h
  | (y, d) :: L, x, c, hs, h => by
    simp only [lk]
    rcases List.mem_cons.1 h with e | h
    · cases e
      rw [if_neg (bl_irr _), if_pos rfl]
    · rw [if_pos (hs.head _ h)]
      exact mem_lk hs.tail h

theorem mem_put : ∀ {L : Fl} {x : ByteArray} {b : List Int} {a : ByteArray × List Int}, a ∈ put L x b → a = (x, b) ∨ a ∈ L
  | [], x, b, a, h => by simp [put] at h; exact .inl h
  | (y, c) :: L, x, b, a, h => by
    simp only [put] at h
    split at h
    · rcases List.mem_cons.1 h with h | h
      · exact .inr (by rw [h]; exact List.mem_cons_self)
      · exact (mem_put h).imp id (List.mem_cons_of_mem _)
    · split at h
      · rcases List.mem_cons.1 h with h | h
        · exact .inl h
        · exact .inr (List.mem_cons_of_mem _ h)
      · rcases List.mem_cons.1 h with h | h
        · exact .inl h
        · exact .inr h
theorem mem_del : ∀ {L : Fl} {x : ByteArray} {a : ByteArray × List Int}, a ∈ del L x → a ∈ L
  | [], x, a, h => h
  | (y, c) :: L, x, a, h => by
    simp only [del] at h
    split at h
    · rcases List.mem_cons.1 h with h | h
      · rw [h]; exact List.mem_cons_self
      · exact List.mem_cons_of_mem _ (mem_del h)
    · split at h
      · exact List.mem_cons_of_mem _ h
      · exact h
theorem Srt.put : ∀ {L : Fl} {x : ByteArray} {b : List Int}, Srt L → Srt (put L x b)
  | [], x, b, _ => by simp [Srt, Proofs.Ytpljmoiemmaecaa.put]
  | (y, c) :: L, x, b, h => by
    simp only [Proofs.Ytpljmoiemmaecaa.put]
    split
    · rename_i hb
      refine List.pairwise_cons.2 ⟨fun a ha => ?_, h.tail.put⟩
      rcases mem_put ha with e | ha
      · rw [e]; exact hb
      · exact h.head a ha
    · split
      · rename_i e
        cases e
        exact List.pairwise_cons.2 ⟨fun a ha => h.head a ha, h.tail⟩
      · rename_i hb e
        have hb' := bl_tri hb e
        refine List.pairwise_cons.2 ⟨fun a ha => ?_, h⟩
        rcases List.mem_cons.1 ha with e' | ha
        · rw [e']; exact hb'
        · exact bl_trans hb' (h.head a ha)
theorem Srt.del : ∀ {L : Fl} {x : ByteArray}, Srt L → Srt (del L x)
  | [], x, h => h
  | (y, c) :: L, x, h => by
    simp only [Proofs.Ytpljmoiemmaecaa.del]
    split
    · exact List.pairwise_cons.2 ⟨fun a ha => h.head a (mem_del ha), h.tail.del⟩
    · split
      · exact h.tail
      · exact h
theorem lk_put : ∀ {L : Fl} {x : ByteArray} {b : List Int}, Srt L → ∀ z, lk (put L x b) z = if z = x then some b else lk L z
  | [], x, b, _, z => by
    simp only [put, lk]
    by_cases e : z = x
    · subst e; simp [bl_irr]
    · rw [if_neg e]
      have e' : ¬ x = z := fun h => e h.symm
      simp [e']
  | (y, c) :: L, x, b, h, z => by
    simp only [put]
    split
    · rename_i hb
      simp only [lk]
      by_cases hz : bl y z
      · rw [if_pos hz, if_pos hz]
        exact lk_put h.tail z
      · rw [if_neg hz, if_neg hz]
        by_cases e : z = x
        · subst e; exact absurd hb hz
        · rw [if_neg e]
    · split
      · rename_i hb e
        subst e
        simp only [lk]
        by_cases e : z = y
        · subst e; simp [bl_irr]
        · rw [if_neg e]
          have e' : ¬ y = z := fun h => e h.symm
          simp only [if_neg e']
      · rename_i hb e
        have hb' := bl_tri hb e
        simp only [lk]
        by_cases e : z = x
        · subst e; simp [bl_irr]
        · rw [if_neg e]
          by_cases hz : bl x z
          · rw [if_pos hz]
          · rw [if_neg hz, if_neg (fun h => e h.symm)]
            have h1 := bl_tri hz (fun h => e h.symm)
            have h2 := bl_trans h1 hb'
            rw [if_neg (bl_asym h2), if_neg (fun h => bl_ne h2 h.symm)]
theorem lk_del : ∀ {L : Fl} {x : ByteArray}, Srt L → ∀ z, lk (del L x) z = if z = x then none else lk L z
  | [], x, _, z => by simp [del, lk]
  | (y, c) :: L, x, h, z => by
    simp only [del]
    split
    · rename_i hb
      simp only [lk]
      by_cases hz : bl y z
      · rw [if_pos hz, if_pos hz]
        exact lk_del h.tail z
      · rw [if_neg hz, if_neg hz]
        by_cases e : z = x
        · subst e; exact absurd hb hz
        · rw [if_neg e]
    · split
      · rename_i hb e
        subst e
        by_cases e : z = y
        · subst e
          rw [if_pos rfl]
          exact lk_lt h.head
        · rw [if_neg e]
          simp only [lk]
          by_cases hz : bl y z
          · rw [if_pos hz]
          · rw [if_neg hz, if_neg (fun h => e h.symm)]
            have h1 := bl_tri hz (fun h => e h.symm)
            exact lk_lt (fun a ha => bl_trans h1 (h.head a ha))
      · rename_i hb e
        have hb' := bl_tri hb e
        by_cases e : z = x
        · subst e
          rw [if_pos rfl]
          simp only [lk]
          rw [if_neg hb, if_neg (fun h => bl_ne hb' h.symm)]
        · rw [if_neg e]
theorem used_put : ∀ (L : Fl) (x : ByteArray) (b : List Int), used (put L x b) + ((lk L x).getD []).length = used L + b.length
  | [], x, b => by simp [put, used, lk]
  | (y, c) :: L, x, b => by
    simp only [put, lk]
    split
    · have := used_put L x b
      simp only [used]
      omega
    · split
      · rename_i e; cases e
        simp only [used, Option.getD_some]
        omega
      · simp only [used, Option.getD_none, List.length_nil]
        omega
theorem used_del : ∀ (L : Fl) (x : ByteArray), used (del L x) + ((lk L x).getD []).length = used L
  | [], x => by simp [del, used, lk]
  | (y, c) :: L, x => by
    simp only [del, lk]
    split
    · have := used_del L x
      simp only [used]
      omega
    · split
      · simp only [used, Option.getD_some]
        omega
      · simp only [used, Option.getD_none, List.length_nil]
        omega
theorem lk_used : ∀ (L : Fl) (x : ByteArray), ((lk L x).getD []).length ≤ used L
  | L, x => by have := used_del L x; omega
theorem len_put : ∀ (L : Fl) (x : ByteArray) (b : List Int), (put L x b).length ≤ L.length + 1
  | [], x, b => by simp [put]
  | (y, c) :: L, x, b => by
    simp only [put]
    have := len_put L x b
    split
    · simp only [List.length_cons]; omega
    · split <;> simp
theorem len_del : ∀ (L : Fl) (x : ByteArray), (del L x).length ≤ L.length
  | [], x => by simp [del]
  | (y, c) :: L, x => by
    simp only [del]
    have := len_del L x
    split
    · simp only [List.length_cons]; omega
    · split <;> simp
theorem Srt.ext : ∀ {L M : Fl}, Srt L → Srt M → (∀ x, lk L x = lk M x) → L = M
  | [], [], _, _, _ => rfl
  | [], (y, c) :: M, _, hM, h => by
    have := h y
    simp [lk, bl_irr] at this
  | (y, c) :: L, [], _, hM, h => by
    have := h y
    simp [lk, bl_irr] at this
  | (y, c) :: L, (z, d) :: M, hL, hM, h => by
    have hyz : y = z := by
      by_cases e : y = z
      · exact e
      · exfalso
        by_cases hb : bl y z
        · have := h y
          simp [lk, bl_irr, bl_asym hb] at this
          exact e this.1.symm
        · have hb' := bl_tri hb e
          have := h z
          simp [lk, bl_irr, hb, e] at this
    subst hyz
    have hcd : c = d := by
      have := h y
      simpa [lk, bl_irr] using this
    subst hcd
    rw [Srt.ext hL.tail hM.tail (fun x => ?_)]
    have := h x
    simp only [lk] at this
    by_cases hb : bl y x
    · rw [if_pos hb, if_pos hb] at this
      exact this
    · have hn : ∀ N : Fl, Srt ((y, c) :: N) → lk N x = none := fun N hN => by
        by_cases e : y = x
        · subst e; exact lk_lt hN.head
        · exact lk_lt (fun a ha => bl_trans (bl_tri hb e) (hN.head a ha))
      rw [hn L hL, hn M hM]

/-- a change, plain -/
structure AC where
  k : Int
  s : ByteArray
  t : ByteArray
  data : List Int
def act (L : Fl) (c : AC) : Fl :=
  if c.k = 0 then put L c.s ((lk L c.s).getD [] ++ c.data)
  else if c.k = 1 then put (del L c.s) c.t ((lk L c.s).getD [])
  else del L c.s
/-- a change that can be done -/
def okA (L : Fl) (c : AC) : Prop := c.s.size ≤ 80 ∧ c.t.size ≤ 80 ∧ (c.k = 0 ∨ c.k = 1 ∧ c.s ≠ c.t ∧ lk L c.s ≠ none ∨ c.k = 2 ∧ lk L c.s ≠ none)
def acts (L : Fl) (cs : List AC) : Fl := cs.foldl act L
/-- changes that can be done one behind the other -/
def oks : Fl → List AC → Prop
  | _, [] => True
  | L, c :: cs => okA L c ∧ oks (act L c) cs
theorem Srt.act {L : Fl} (h : Srt L) (c : AC) : Srt (act L c) := by
  unfold Proofs.Ytpljmoiemmaecaa.act
  split
  · exact h.put
  · split
    · exact h.del.put
    · exact h.del
theorem Srt.acts : ∀ {L : Fl} (cs : List AC), Srt L → Srt (acts L cs)
  | _, [], h => h
  | L, c :: cs, h => Srt.acts (L := Proofs.Ytpljmoiemmaecaa.act L c) cs (h.act c)
theorem acts_append (L : Fl) (cs ds : List AC) : acts L (cs ++ ds) = acts (acts L cs) ds := by unfold acts; rw [List.foldl_append]
theorem oks_append : ∀ (L : Fl) (cs ds : List AC), oks L (cs ++ ds) ↔ oks L cs ∧ oks (acts L cs) ds
  | L, [], ds => by simp [oks, acts]
  | L, c :: cs, ds => by
    have := oks_append (act L c) cs ds
    simp only [List.cons_append, oks, this, and_assoc]
    rfl
theorem lk_act {L : Fl} (h : Srt L) (c : AC) (hc : c.k = 1 → c.s ≠ c.t) (z : ByteArray) : lk (act L c) z =
    if c.k = 0 then (if z = c.s then some ((lk L c.s).getD [] ++ c.data) else lk L z)
    else if c.k = 1 then (if z = c.s then none else if z = c.t then some ((lk L c.s).getD []) else lk L z)
    else (if z = c.s then none else lk L z) := by
  unfold act
  split
  · rw [lk_put h]
  · split
    · rename_i hk
      rw [lk_put h.del, lk_del h]
      have := hc hk
      by_cases e : z = c.s
      · subst e
        rw [if_neg this, if_pos rfl, if_pos rfl]
      · rw [if_neg e, if_neg e]
    · rw [lk_del h]

end Go.Proofs.Ytpljmoiemmaecaa
