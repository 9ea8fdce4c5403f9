/- Put, plain: whether it may be, where, and what it leaves. -/
import Derived.Test.YtfkbjniodomdjaaGf
import Derived.Test.YtfkbjniodomdjaaGc
namespace Go.Proofs.Ytfkbjniodomdjaa
open Go.RowKit Go.Shelf Go.Lib

def hldB (ns : List Nd) (up : Int) : Bool := atN ns up Nd.kind 0 == 1 || atN ns up Nd.kind 0 == 2
/-- whether a node may be put: no fault in what is asked -/
def putB (ns : List Nd) (up n before : Int) : Bool := hldB ns up && inN ns n && !(atN ns n Nd.kind 0 == 1) && !(before == n) && !(withN ns up n)
def putE (ns : List Nd) (up n before : Int) : Int := if putB ns up n before then (if plcB ns up before then 0 else 4) else 1
def putP (ns : List Nd) (up n before : Int) (v1 v2 : Value) : List Nd :=
  if putB ns up n before && plcB ns up before then
    setU (setK (outP ns n v1) up.toNat v2 ((kdN (outP ns n v1) up).take (plcN (outP ns n v1) up before).toNat ++ n :: (kdN (outP ns n v1) up).drop (plcN (outP ns n v1) up before).toNat)) n.toNat up
  else ns
theorem hld_in {ns : List Nd} {up : Int} (h : hldB ns up = true) : inN ns up = true := by
  cases hq : inN ns up with
  | true => rfl
  | false => unfold hldB at h; rw [atN_none hq] at h; cases h
theorem outP_len (ns : List Nd) (n : Int) (v : Value) : (outP ns n v).length = ns.length := by
  unfold outP
  split
  · rw [setU_len]
    split
    · rw [setK_len]
    · rfl
  · rfl
theorem inN_len {ns ns' : List Nd} (h : ns'.length = ns.length) (n : Int) : inN ns' n = inN ns n := by
  unfold inN
  rw [h]
theorem setU_get {ns : List Nd} {i : Nat} {u : Int} {j : Nat} {y : Nd} (h : ns[j]? = some y) : ∃ y', (setU ns i u)[j]? = some y' ∧ y'.kids = y.kids ∧ y'.kv = y.kv ∧ (j ≠ i → y' = y) := by
  unfold setU
  cases hx : ns[i]? with
  | none => exact ⟨y, h, rfl, rfl, fun _ => rfl⟩
  | some x =>
    by_cases e : j = i
    · subst e
      rw [hx] at h
      cases h
      exact ⟨_, List.getElem?_set_self (List.getElem?_eq_some_iff.1 hx).1, rfl, rfl, fun h => absurd rfl h⟩
    · exact ⟨y, by rw [List.getElem?_set_ne (fun h => e h.symm)]; exact h, rfl, rfl, fun _ => rfl⟩
theorem setK_get {ns : List Nd} {i : Nat} {v : Value} {ks : List Int} {j : Nat} {y : Nd} (h : ns[j]? = some y) : ∃ y', (setK ns i v ks)[j]? = some y' ∧ y'.kids = (if j = i then ks else y.kids) := by
  unfold setK
  cases hx : ns[i]? with
  | none =>
    have : j ≠ i := fun e => by rw [e, hx] at h; cases h
    exact ⟨y, h, by rw [if_neg this]⟩
  | some x =>
    by_cases e : j = i
    · subst e
      exact ⟨_, List.getElem?_set_self (List.getElem?_eq_some_iff.1 hx).1, by rw [if_pos rfl]⟩
    · exact ⟨y, by rw [List.getElem?_set_ne (fun h => e h.symm)]; exact h, by rw [if_neg e]⟩
/-- a node's kids behind an Out: as they were, or without the one -/
theorem out_kids {ns : List Nd} {n : Int} {v : Value} {p : Nat} {y : Nd} (hy : ns[p]? = some y) : ∃ y', (outP ns n v)[p]? = some y' ∧ (y'.kids = y.kids ∨ ∃ k : Nat, y.kids[k]? = some n ∧ y'.kids = y.kids.eraseIdx k) := by
  unfold outP
  cases hn : inN ns n with
  | false => rw [if_neg (by decide)]; exact ⟨y, hy, .inl rfl⟩
  | true =>
    rw [if_pos rfl]
    by_cases h0 : 0 ≤ outI ns n
    · rw [if_pos h0]
      obtain ⟨y1, hy1, hk1⟩ := setK_get (i := (atN ns n Nd.up (-1)).toNat) (v := v) (ks := (kdN ns (atN ns n Nd.up (-1))).eraseIdx (outI ns n).toNat) hy
      obtain ⟨y2, hy2, hk2, _, _⟩ := setU_get (i := n.toNat) (u := -1) hy1
      refine ⟨y2, hy2, ?_⟩
      rw [hk2, hk1]
      by_cases e : p = (atN ns n Nd.up (-1)).toNat
      · rw [if_pos e]
        rcases idx_cases (kdN ns (atN ns n Nd.up (-1))) n with h | ⟨k, h, hk⟩
        · have : outI ns n = -1 := h
          omega
        · have hu : inN ns (atN ns n Nd.up (-1)) = true := by
            cases hq : inN ns (atN ns n Nd.up (-1)) with
            | true => rfl
            | false => unfold kdN at hk; rw [atN_none hq] at hk; simp at hk
          obtain ⟨q, z, hqu, hz⟩ := inN_at hu
          have hpq : p = q := by rw [e, hqu, Int.toNat_natCast]
          subst hpq
          rw [hy] at hz
          cases hz
          have hkd : kdN ns (atN ns n Nd.up (-1)) = y.kids := by rw [hqu]; exact atN_some hy
          rw [hkd] at hk
          right
          refine ⟨k, hk, ?_⟩
          have : (outI ns n).toNat = k := by unfold outI; rw [h, Int.toNat_natCast]
          rw [this, hkd]
      · rw [if_neg e]
        exact .inl rfl
    · rw [if_neg h0]
      obtain ⟨y2, hy2, hk2, _, _⟩ := setU_get (i := n.toNat) (u := -1) hy
      exact ⟨y2, hy2, .inl hk2⟩
theorem mem_erase {l : List Int} {k : Nat} {n b : Int} (hk : l[k]? = some n) (hb : b ∈ l) (hne : b ≠ n) : b ∈ l.eraseIdx k := by
  obtain ⟨j, hj⟩ := List.mem_iff_getElem?.1 hb
  have hjk : j ≠ k := fun e => by rw [e, hk] at hj; cases hj; exact hne rfl
  rw [List.mem_iff_getElem?]
  rcases Nat.lt_or_ge j k with h | h
  · exact ⟨j, by rw [List.getElem?_eraseIdx_of_lt h]; exact hj⟩
  · refine ⟨j - 1, ?_⟩
    rw [List.getElem?_eraseIdx_of_ge (by omega), Nat.sub_add_cancel (by omega)]
    exact hj
/-- the place, behind an Out -/
theorem plc_out {ns : List Nd} {up n before : Int} {v : Value} (hup : inN ns up = true) (hb : before ≠ n) (hp : plcB ns up before = true) : ∃ k : Nat, plcN (outP ns n v) up before = (k : Int) ∧ k ≤ (kdN (outP ns n v) up).length := by
  obtain ⟨p, y, rfl, hy⟩ := inN_at hup
  obtain ⟨y', hy', hk⟩ := out_kids (n := n) (v := v) hy
  have h1 : kdN (outP ns n v) (p : Int) = y'.kids := atN_some hy'
  have h2 : kdN ns (p : Int) = y.kids := atN_some hy
  unfold plcN
  unfold plcB at hp
  rw [h1]
  rw [h2] at hp
  by_cases h0 : before = -1
  · rw [if_pos h0]
    exact ⟨_, rfl, Nat.le_refl _⟩
  · rw [if_neg h0] at hp ⊢
    have hp := of_decide_eq_true hp
    rw [idxOf_nonneg_iff] at hp
    have hm : before ∈ y.kids := by simpa using hp
    have hm' : before ∈ y'.kids := by
      rcases hk with hk | ⟨k, hk, e⟩
      · rw [hk]; exact hm
      · rw [e]; exact mem_erase hk hm hb
    have hge : (0 : Int) ≤ Lib.idxOf y'.kids before := by rw [idxOf_nonneg_iff]; simpa using hm'
    rcases idx_cases y'.kids before with h | ⟨k, h, hk⟩
    · omega
    · exact ⟨k, h, Nat.le_of_lt (List.getElem?_eq_some_iff.1 hk).1⟩
end Go.Proofs.Ytfkbjniodomdjaa
