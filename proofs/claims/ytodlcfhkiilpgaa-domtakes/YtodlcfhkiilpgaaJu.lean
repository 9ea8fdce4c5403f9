/- Putting a node that is new behind all that stands beneath an elder one: plain. -/
import Derived.Test.YtodlcfhkiilpgaaJs
namespace Go.Proofs.Ytodlcfhkiilpgaa
open Go.RowKit Go.Shelf Go.Lib

/-- what a Put leaves of a node beside its place and what stands beneath it -/
def Lk8 (y z : Nd) : Prop := y.kind = z.kind ∧ y.space = z.space ∧ y.name = z.name ∧ y.data = z.data ∧ y.attrs = z.attrs ∧ y.pub = z.pub ∧ y.sys = z.sys ∧ y.inner = z.inner
theorem Lk8.refl (y : Nd) : Lk8 y y := ⟨rfl, rfl, rfl, rfl, rfl, rfl, rfl, rfl⟩
theorem setU_lk {ns : List Nd} {i : Nat} {u : Int} {j : Nat} {y : Nd} (h : ns[j]? = some y) : ∃ y', (setU ns i u)[j]? = some y' ∧ Lk8 y' y ∧ y'.kids = y.kids ∧ y'.up = (if j = i then u else y.up) := by
  unfold setU
  cases hx : ns[i]? with
  | none =>
    have : j ≠ i := fun e => by rw [e, hx] at h; cases h
    exact ⟨y, h, Lk8.refl y, rfl, by rw [if_neg this]⟩
  | some x =>
    by_cases e : j = i
    · subst e
      rw [hx] at h
      cases h
      exact ⟨_, List.getElem?_set_self (List.getElem?_eq_some_iff.1 hx).1, Lk8.refl _, rfl, by rw [if_pos rfl]⟩
    · exact ⟨y, by rw [List.getElem?_set_ne (fun h => e h.symm)]; exact h, Lk8.refl y, rfl, by rw [if_neg e]⟩
theorem setK_lk {ns : List Nd} {i : Nat} {v : Value} {ks : List Int} {j : Nat} {y : Nd} (h : ns[j]? = some y) : ∃ y', (setK ns i v ks)[j]? = some y' ∧ Lk8 y' y ∧ y'.kids = (if j = i then ks else y.kids) ∧ y'.up = y.up := by
  unfold setK
  cases hx : ns[i]? with
  | none =>
    have : j ≠ i := fun e => by rw [e, hx] at h; cases h
    exact ⟨y, h, Lk8.refl y, by rw [if_neg this], rfl⟩
  | some x =>
    by_cases e : j = i
    · subst e
      rw [hx] at h
      cases h
      exact ⟨_, List.getElem?_set_self (List.getElem?_eq_some_iff.1 hx).1, Lk8.refl _, by rw [if_pos rfl], rfl⟩
    · exact ⟨y, by rw [List.getElem?_set_ne (fun h => e h.symm)]; exact h, Lk8.refl y, by rw [if_neg e], rfl⟩
theorem Lk8.trans {x y z : Nd} (h1 : Lk8 x y) (h2 : Lk8 y z) : Lk8 x z := by
  obtain ⟨a1, a2, a3, a4, a5, a6, a7, a8⟩ := h1
  obtain ⟨b1, b2, b3, b4, b5, b6, b7, b8⟩ := h2
  exact ⟨a1.trans b1, a2.trans b2, a3.trans b3, a4.trans b4, a5.trans b5, a6.trans b6, a7.trans b7, a8.trans b8⟩
theorem put_new {zs : List Nd} {L K : Nat} {y t : Nd} (hy : zs[L]? = some y) (ht : zs[K]? = some t) (hyk : y.kind = 1 ∨ y.kind = 2) (htk : t.kind ≠ 1) (htu : t.up = -1) (hw : withN zs L K = false) (v1 v2 : Value) :
    putE zs L K (-1) = 0 ∧ ∀ (j : Nat) x, zs[j]? = some x → ∃ x', (putP zs L K (-1) v1 v2)[j]? = some x' ∧ Lk8 x' x ∧ x'.kids = (if j = L then x.kids ++ [(K : Int)] else x.kids) ∧ x'.up = (if j = K then (L : Int) else x.up) := by
  have hb : putB zs L K (-1) = true := by
    unfold putB hldB
    rw [atN_some hy, atN_some ht, inN_of ht, hw]
    have h1 : (y.kind == 1 || y.kind == 2) = true := by
      rcases hyk with h | h <;> rw [h] <;> rfl
    have h2 : (t.kind == 1) = false := by rw [beq_eq_false_iff_ne]; exact htk
    have h3 : ((-1 : Int) == (K : Int)) = false := by rw [beq_eq_false_iff_ne]; omega
    rw [h1, h2, h3]
    rfl
  have hp : plcB zs L (-1) = true := by unfold plcB; rw [if_pos rfl]
  have ho : ∀ (j : Nat) x, zs[j]? = some x → ∃ x', (outP zs K v1)[j]? = some x' ∧ Lk8 x' x ∧ x'.kids = x.kids ∧ x'.up = x.up := by
    intro j x hx
    unfold outP
    rw [inN_of ht, if_pos rfl]
    have hi : outI zs (K : Int) = -1 := by
      unfold outI
      rw [atN_some ht, htu]
      unfold kdN
      rw [atN_none (inN_neg zs)]
      rfl
    rw [hi, if_neg (by omega)]
    obtain ⟨x', h1, h2, h3, h4⟩ := setU_lk (i := (K : Int).toNat) (u := -1) hx
    refine ⟨x', h1, h2, h3, ?_⟩
    rw [h4]
    split
    · rename_i e
      rw [Int.toNat_natCast] at e
      subst e
      rw [hx] at ht
      cases ht
      exact htu.symm
    · rfl
  refine ⟨by unfold putE; rw [hb, hp]; rfl, fun j x hx => ?_⟩
  unfold putP
  rw [hb, hp]
  obtain ⟨yo, hyo, _, hyk2, _⟩ := ho L y hy
  obtain ⟨xo, hxo, hxl, hxk, hxu⟩ := ho j x hx
  have hkd : kdN (outP zs K v1) (L : Int) = y.kids := by unfold kdN; rw [atN_some hyo, hyk2]
  have hpl : plcN (outP zs K v1) (L : Int) (-1) = (y.kids.length : Int) := by unfold plcN; rw [if_pos rfl, hkd]
  simp only [Bool.and_self, if_true]
  rw [hkd, hpl, Int.toNat_natCast, Int.toNat_natCast, Int.toNat_natCast, List.take_length, List.drop_length]
  obtain ⟨x1, g1, g2, g3, g4⟩ := setK_lk (i := L) (v := v2) (ks := y.kids ++ [(K : Int)]) hxo
  obtain ⟨x2, e1, e2, e3, e4⟩ := setU_lk (i := K) (u := (L : Int)) g1
  refine ⟨x2, e1, e2.trans (g2.trans hxl), ?_, ?_⟩
  · rw [e3, g3]
    split
    · rename_i e
      subst e
      rw [hx] at hy
      cases hy
      rfl
    · exact hxk
  · rw [e4, g4, hxu]
end Go.Proofs.Ytodlcfhkiilpgaa
