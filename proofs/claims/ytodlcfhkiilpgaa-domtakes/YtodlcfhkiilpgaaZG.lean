/- Trees, plain: what the laws keep beside one, and what keeps it a tree. Slices of numbers whose rows may be longer than they are, and append onto them. Appends of numbers in a region that draws its order; a slice's parts. What the laws of layer 8 do with lists of numbers: where one stands, one less, one more. A list with one more at a place. -/
import Derived.Lib.Slices
import Derived.Test.YtodlcfhkiilpgaaZA
import Derived.Maps.AppendAt
import Derived.Laws.Append
import Derived.RegionTactic
import Derived.Deep.RegionLaw
import Derived.BigRegion
namespace Go.Proofs.Ytodlcfhkiilpgaa
open Go

structure Pl where
  kind : Int
  name : ByteArray
  data : ByteArray
  up : Int
  kids : List Int
  inner : Int
/-- a field of a node, or what stands for it where there is no node -/
def pAt {β : Type} (ps : List Pl) (n : Int) (f : Pl → β) (d : β) : β := if 0 ≤ n then ((ps[n.toNat]?).map f).getD d else d
theorem pAt_some {β : Type} {ps : List Pl} {i : Nat} {x : Pl} {f : Pl → β} {d : β} (h : ps[i]? = some x) : pAt ps i f d = f x := by
  unfold pAt
  rw [if_pos (by omega), Int.toNat_natCast, h]
  rfl
theorem pAt_neg {β : Type} {ps : List Pl} {n : Int} {f : Pl → β} {d : β} (h : n < 0) : pAt ps n f d = d := by
  unfold pAt
  rw [if_neg (by omega)]
theorem pAt_ge {β : Type} {ps : List Pl} {n : Int} {f : Pl → β} {d : β} (h : (ps.length : Int) ≤ n) : pAt ps n f d = d := by
  unfold pAt
  split
  · rw [List.getElem?_eq_none (by omega)]; rfl
  · rfl
/-- the one above a number, inner pages counted -/
def abv (ps : List Pl) (n : Int) : Int := if n < 0 then -1 else if pAt ps n Pl.up (-1) ≠ -1 then pAt ps n Pl.up (-1) else if pAt ps (n - 1) Pl.inner (-1) = n then n - 1 else -1
/-- the way up from a number -/
inductive Path (f : Int → Int) : Int → List Int → Prop
  | nil : Path f (-1) []
  | cons {n l} : 0 ≤ n → Path f (f n) l → Path f n (n :: l)
theorem Path.unique {f : Int → Int} {n : Int} {l m : List Int} (h : Path f n l) : Path f n m → l = m := by
  induction h generalizing m with
  | nil => intro h2; cases h2 with
    | nil => rfl
    | cons h _ => omega
  | cons h0 _ ih => intro h2; cases h2 with
    | nil => omega
    | cons _ h2 => rw [ih h2]
theorem Path.sub {f : Int → Int} {n : Int} {l : List Int} (h : Path f n l) : ∀ m ∈ l, ∃ s, Path f m s ∧ s.length ≤ l.length := by
  induction h with
  | nil => intro m hm; cases hm
  | @cons n l h0 hp ih =>
    intro m hm
    rcases List.mem_cons.1 hm with rfl | hm
    · exact ⟨_, .cons h0 hp, Nat.le_refl _⟩
    · obtain ⟨s, hs, hl⟩ := ih m hm
      exact ⟨s, hs, by simp; omega⟩
theorem Path.nodup {f : Int → Int} {n : Int} {l : List Int} (h : Path f n l) : l.Nodup := by
  induction h with
  | nil => exact List.nodup_nil
  | @cons n l h0 hp ih =>
    refine List.nodup_cons.2 ⟨fun hm => ?_, ih⟩
    obtain ⟨s, hs, hl⟩ := hp.sub n hm
    have := hs.unique (.cons h0 hp)
    rw [this] at hl
    simp at hl
    omega
theorem Path.nonneg {f : Int → Int} {n : Int} {l : List Int} (h : Path f n l) : ∀ m ∈ l, 0 ≤ m := by
  induction h with
  | nil => intro m hm; cases hm
  | @cons n l h0 hp ih =>
    intro m hm
    rcases List.mem_cons.1 hm with rfl | hm
    · exact h0
    · exact ih m hm
/-- a list of unlike numbers below N is no longer than N -/
theorem pigeon : ∀ (N : Nat) (l : List Int), l.Nodup → (∀ x ∈ l, 0 ≤ x ∧ x < N) → l.length ≤ N
  | 0, l, _, h => by
    cases l with
    | nil => exact Nat.le_refl _
    | cons x l => have := h x (List.mem_cons_self ..); omega
  | N + 1, l, hn, h => by
    have h2 := pigeon N (l.erase (N : Int)) (hn.erase _) (fun x hx => by
      have hm := List.mem_of_mem_erase hx
      have := h x hm
      have hne : x ≠ (N : Int) := fun e => by
        subst e
        exact (hn.not_mem_erase) hx
      omega)
    by_cases hm : (N : Int) ∈ l
    · rw [List.length_erase_of_mem hm] at h2
      omega
    · rw [List.erase_of_not_mem hm] at h2
      omega
/-- a way turned at one place alone -/
theorem Path.turn {f g : Int → Int} {n : Int} {l : List Int} (h : Path f n l) {a : Int} (hfg : ∀ m, m ≠ a → g m = f m) (ha : ∃ s, Path g (g a) s) : ∃ s, Path g n s := by
  induction h with
  | nil => exact ⟨_, .nil⟩
  | @cons n l h0 hp ih =>
    by_cases e : n = a
    · subst e
      obtain ⟨s, hs⟩ := ha
      exact ⟨_, .cons h0 hs⟩
    · obtain ⟨s, hs⟩ := ih
      exact ⟨_, .cons h0 (by rw [hfg n e]; exact hs)⟩
theorem Path.same {f g : Int → Int} {n : Int} {l : List Int} (h : Path f n l) (hfg : ∀ m ∈ l, g m = f m) : Path g n l := by
  induction h with
  | nil => exact .nil
  | @cons n l h0 hp ih => exact .cons h0 (by rw [hfg n (List.mem_cons_self ..)]; exact ih (fun m hm => hfg m (List.mem_cons_of_mem _ hm)))
/-- is a on the way up from n? -/
def bnF (f : Int → Int) (a : Int) : Nat → Int → Bool
  | 0, _ => false
  | k + 1, n => if n < 0 then false else if n = a then true else bnF f a k (f n)
theorem Path.bn {f : Int → Int} {a : Int} {n : Int} {l : List Int} (h : Path f n l) : ∀ k, l.length ≤ k → bnF f a k n = decide (a ∈ l) := by
  induction h with
  | nil => intro k _; cases k <;> simp [bnF]
  | @cons n l h0 hp ih =>
    intro k hk
    cases k with
    | zero => simp at hk
    | succ k =>
      unfold bnF
      rw [if_neg (by omega)]
      by_cases e : n = a
      · rw [if_pos e]; simp [e]
      · rw [if_neg e, ih k (by simpa using hk)]
        have : (a ∈ n :: l) ↔ a ∈ l := by
          rw [List.mem_cons]
          exact ⟨fun h => h.resolve_left (fun h => e h.symm), .inr⟩
        simp only [this]
def ben (ps : List Pl) (a n : Int) : Bool := bnF (abv ps) a ps.length n
def tplQ (x : Pl) : Bool := x.kind == 2 && x.name.toList == [116, 101, 109, 112, 108, 97, 116, 101]
/-- a page has nothing to say; templates alone have contents -/
def Nmd (x : Pl) : Prop := (x.kind = 1 → x.name = ⟨#[]⟩ ∧ x.data = ⟨#[]⟩) ∧ (x.inner ≠ -1 ↔ tplQ x = true)
/-- a text said -/
def txQ (s : ByteArray) : Pl := ⟨3, ⟨#[]⟩, s, -1, [], -1⟩
theorem nmd_one {y : Pl} (h : Nmd y) : ∀ (j : Nat) x, [y][j]? = some x → Nmd x := by
  intro j x hx
  match j, hx with
  | 0, hx => simp at hx; subst hx; exact h
  | j + 1, hx => simp at hx
theorem nmd_tx (s : ByteArray) : ∀ (j : Nat) x, [txQ s][j]? = some x → Nmd x :=
  nmd_one ⟨fun h => absurd (show (3 : Int) = 1 from h) (by decide), fun h => absurd (show (-1 : Int) = -1 from rfl) h, fun h => by cases h⟩
theorem nmd_page : Nmd ⟨1, ⟨#[]⟩, ⟨#[]⟩, -1, [], -1⟩ := ⟨fun _ => ⟨rfl, rfl⟩, fun h => absurd rfl h, fun h => by cases h⟩
structure Tr (ps : List Pl) : Prop where
  kd : ∀ (i : Nat) x, ps[i]? = some x → 1 ≤ x.kind ∧ (x.kids ≠ [] → x.kind ≤ 2)
  up : ∀ (i : Nat) x, ps[i]? = some x → x.up = -1 ∨ ∃ (j : Nat) (y : Pl), x.up = (j : Int) ∧ ps[j]? = some y ∧ (i : Int) ∈ y.kids
  kup : ∀ (i : Nat) x, ps[i]? = some x → ∀ k ∈ x.kids, ∃ (j : Nat) (y : Pl), k = (j : Int) ∧ ps[j]? = some y ∧ y.up = (i : Int)
  nd : ∀ (i : Nat) x, ps[i]? = some x → x.kids.Nodup
  inn : ∀ (i : Nat) x, ps[i]? = some x → x.inner = -1 ∨ (x.inner = (i : Int) + 1 ∧ x.kind = 2 ∧ ∃ y, ps[i + 1]? = some y ∧ y.kind = 1)
  pg : ∀ (i : Nat) x, ps[i]? = some x → x.kind = 1 → x.up = -1 ∧ x.inner = -1
  nm : ∀ (i : Nat) x, ps[i]? = some x → Nmd x
  ac : ∀ i : Nat, i < ps.length → ∃ l, Path (abv ps) i l
section
variable {ps : List Pl}
theorem Tr.abv_in (h : Tr ps) {n : Int} : abv ps n = -1 ∨ (0 ≤ abv ps n ∧ abv ps n < ps.length) := by
  unfold abv
  split
  · exact .inl rfl
  · rename_i h0
    split
    · rename_i h1
      obtain ⟨i, rfl⟩ : ∃ i : Nat, n = i := ⟨n.toNat, by omega⟩
      cases hx : ps[i]? with
      | none => unfold pAt at h1; rw [if_pos (by omega), Int.toNat_natCast, hx] at h1; exact absurd rfl h1
      | some x =>
        rw [pAt_some hx] at h1 ⊢
        rcases h.up i x hx with e | ⟨j, y, e, hy, _⟩
        · exact absurd e h1
        · rw [e]
          have := (List.getElem?_eq_some_iff.1 hy).1
          exact .inr (by omega)
    · split
      · rename_i h2
        have : (0 ≤ n - 1 ∧ n - 1 < ps.length) := by
          rcases Int.lt_or_le (n - 1) 0 with h3 | h3
          · rw [pAt_neg h3] at h2; omega
          · rcases Int.lt_or_le (n - 1) ps.length with h4 | h4
            · exact ⟨h3, h4⟩
            · rw [pAt_ge h4] at h2; omega
        exact .inr this
      · exact .inl rfl
theorem Tr.path_in (h : Tr ps) {n : Int} {l : List Int} (hp : Path (abv ps) n l) (hn : n < ps.length) : ∀ m ∈ l, 0 ≤ m ∧ m < ps.length := by
  induction hp with
  | nil => intro m hm; cases hm
  | @cons n l h0 hp ih =>
    intro m hm
    rcases List.mem_cons.1 hm with rfl | hm
    · exact ⟨h0, hn⟩
    · exact ih (by rcases h.abv_in (n := n) with e | e <;> omega) m hm
theorem Tr.path (h : Tr ps) {n : Int} (h0 : -1 ≤ n) (hn : n < ps.length) : ∃ l, Path (abv ps) n l ∧ l.length ≤ ps.length := by
  obtain ⟨l, hl⟩ : ∃ l, Path (abv ps) n l := by
    by_cases e : n = -1
    · subst e; exact ⟨[], .nil⟩
    · obtain ⟨l, hl⟩ := h.ac n.toNat (by omega)
      rw [Int.toNat_of_nonneg (by omega)] at hl
      exact ⟨l, hl⟩
  exact ⟨l, hl, pigeon _ l hl.nodup (h.path_in hl hn)⟩
theorem Tr.ben (h : Tr ps) {n a : Int} (h0 : -1 ≤ n) (hn : n < ps.length) : ∃ l, Path (abv ps) n l ∧ l.length ≤ ps.length ∧ ben ps a n = decide (a ∈ l) := by
  obtain ⟨l, hl, hle⟩ := h.path h0 hn
  exact ⟨l, hl, hle, hl.bn _ hle⟩
end
/-- one of a list turned -/
def md (ps : List Pl) (i : Nat) (f : Pl → Pl) : List Pl := match ps[i]? with
  | some x => ps.set i (f x)
  | none => ps
theorem md_len (ps : List Pl) (i : Nat) (f : Pl → Pl) : (md ps i f).length = ps.length := by
  unfold md
  cases ps[i]? <;> simp
theorem md_get (ps : List Pl) (i : Nat) (f : Pl → Pl) (j : Nat) : (md ps i f)[j]? = if j = i then (ps[j]?).map f else ps[j]? := by
  unfold md
  cases hx : ps[i]? with
  | none =>
    by_cases e : j = i
    · subst e; rw [if_pos rfl, hx]; rfl
    · rw [if_neg e]
  | some x =>
    by_cases e : j = i
    · subst e
      rw [if_pos rfl, hx, List.getElem?_set_self (List.getElem?_eq_some_iff.1 hx).1]; rfl
    · rw [if_neg e, List.getElem?_set_ne (fun h => e h.symm)]
def outQ (ps : List Pl) (n : Int) : List Pl :=
  if pAt ps n Pl.up (-1) < 0 then ps else
    md (md ps (pAt ps n Pl.up (-1)).toNat (fun y => { y with kids := y.kids.erase n })) n.toNat (fun x => { x with up := -1 })
theorem outQ_len (ps : List Pl) (n : Int) : (outQ ps n).length = ps.length := by
  unfold outQ
  split
  · rfl
  · rw [md_len, md_len]
/-- what stands in a place behind an Out -/
theorem outQ_get {ps : List Pl} (h : Tr ps) {i : Nat} {x : Pl} (hx : ps[i]? = some x) (j : Nat) : (outQ ps i)[j]? = (ps[j]?).map (fun y => { y with up := if j = i then -1 else y.up, kids := y.kids.erase (i : Int) }) := by
  unfold outQ
  rw [pAt_some hx]
  have nomem : ∀ (j : Nat) y, ps[j]? = some y → x.up ≠ (j : Int) → (i : Int) ∉ y.kids := by
    intro j y hy hne hm
    obtain ⟨k, z, e, hz, hu⟩ := h.kup j y hy i hm
    have : i = k := by omega
    subst this
    rw [hx] at hz
    cases hz
    exact hne hu
  split
  · rename_i h0
    cases hy : ps[j]? with
    | none => rfl
    | some y =>
      have h1 : y.kids.erase (i : Int) = y.kids := List.erase_of_not_mem (nomem j y hy (by omega))
      have h2 : (if j = i then -1 else y.up) = y.up := by
        split
        · rename_i e
          subst e
          rw [hx] at hy
          cases hy
          rcases h.up j x hx with e | ⟨_, _, e, _⟩ <;> omega
        · rfl
      simp only [Option.map_some, h1, h2]
  · rename_i h0
    rw [md_get, md_get]
    cases hy : ps[j]? with
    | none => simp
    | some y =>
      have h1 : (if j = x.up.toNat then some { y with kids := y.kids.erase (i : Int) } else some y) = some { y with kids := y.kids.erase (i : Int) } := by
        split
        · rfl
        · rename_i hne
          have : y.kids.erase (i : Int) = y.kids := List.erase_of_not_mem (nomem j y hy (by omega))
          rw [this]
      simp only [Option.map_some]
      rw [h1]
      rw [Int.toNat_natCast]
      by_cases e : j = i
      · rw [if_pos e, if_pos e]; rfl
      · rw [if_neg e, if_neg e]
theorem pAt_get {β : Type} {ps qs : List Pl} {f g : Pl → β} {d : β} (hl : qs.length = ps.length) {n : Int} (h : ∀ (i : Nat) x, n = i → ps[i]? = some x → ∃ y, qs[i]? = some y ∧ g y = f x) : pAt qs n g d = pAt ps n f d := by
  rcases Int.lt_or_le n 0 with h0 | h0
  · rw [pAt_neg h0, pAt_neg h0]
  · rcases Int.lt_or_le n ps.length with h1 | h1
    · obtain ⟨i, rfl⟩ : ∃ i : Nat, n = i := ⟨n.toNat, by omega⟩
      obtain ⟨y, hy, e⟩ := h i _ rfl (List.getElem?_eq_getElem (by omega))
      rw [pAt_some hy, pAt_some (List.getElem?_eq_getElem (by omega)), e]
    · rw [pAt_ge h1, pAt_ge (by omega)]
/-- Out keeps a tree -/
theorem outQ_tr {ps : List Pl} (h : Tr ps) {i : Nat} {x : Pl} (hx : ps[i]? = some x) : Tr (outQ ps i) := by
  have G := outQ_get h hx
  have Gs : ∀ (j : Nat) y, ps[j]? = some y → (outQ ps i)[j]? = some { y with up := if j = i then -1 else y.up, kids := y.kids.erase (i : Int) } := fun j y hy => by rw [G, hy]; rfl
  have inv : ∀ (j : Nat) y', (outQ ps i)[j]? = some y' → ∃ y, ps[j]? = some y ∧ y' = { y with up := if j = i then -1 else y.up, kids := y.kids.erase (i : Int) } := by
    intro j y' hy
    rw [G] at hy
    cases hj : ps[j]? with
    | none => rw [hj] at hy; cases hy
    | some y => rw [hj] at hy; exact ⟨y, rfl, (Option.some.inj hy).symm⟩
  have nd : ∀ (j : Nat) y, ps[j]? = some y → ∀ k, k ∈ y.kids.erase (i : Int) → k ∈ y.kids ∧ k ≠ i := fun j y hy k hk => ⟨List.mem_of_mem_erase hk, fun e => by subst e; exact (h.nd j y hy).not_mem_erase hk⟩
  constructor
  · intro j y' hy
    obtain ⟨y, hz0, rfl⟩ := inv j y' hy
    clear hy
    refine ⟨(h.kd j y hz0).1, fun e => (h.kd j y hz0).2 (fun e2 => e (by simp [e2]))⟩
  · intro j y' hy
    obtain ⟨y, hz0, rfl⟩ := inv j y' hy
    clear hy
    by_cases e : j = i
    · left; simp [e]
    · rcases h.up j y hz0 with h1 | ⟨k, z, h1, hz, hm⟩
      · left; simp [e, h1]
      · right
        refine ⟨k, _, by simp [e, h1], Gs k z hz, ?_⟩
        exact (List.mem_erase_of_ne (by omega)).2 hm
  · intro j y' hy k hk
    obtain ⟨y, hz0, rfl⟩ := inv j y' hy
    clear hy
    obtain ⟨hm, hne⟩ := nd j y hz0 k hk
    obtain ⟨q, z, e, hz, hu⟩ := h.kup j y hz0 k hm
    refine ⟨q, _, e, Gs q z hz, ?_⟩
    have : ¬ q = i := fun e2 => hne (by omega)
    simp [this, hu]
  · intro j y' hy
    obtain ⟨y, hz0, rfl⟩ := inv j y' hy
    clear hy
    exact (h.nd j y hz0).erase _
  · intro j y' hy
    obtain ⟨y, hz0, rfl⟩ := inv j y' hy
    clear hy
    rcases h.inn j y hz0 with e | ⟨e1, e2, z, hz, e3⟩
    · exact .inl e
    · exact .inr ⟨e1, e2, _, Gs _ z hz, e3⟩
  · intro j y' hy hk
    obtain ⟨y, hz0, rfl⟩ := inv j y' hy
    clear hy
    have := h.pg j y hz0 hk
    refine ⟨?_, this.2⟩
    simp only
    split
    · rfl
    · exact this.1
  · intro j y' hy
    obtain ⟨y, hz0, rfl⟩ := inv j y' hy
    exact h.nm j y hz0
  · have hin : ∀ n, pAt (outQ ps i) n Pl.inner (-1) = pAt ps n Pl.inner (-1) := fun n => pAt_get (outQ_len _ _) (fun j y _ hy => ⟨_, Gs j y hy, rfl⟩)
    have hup : ∀ n, n ≠ (i : Int) → pAt (outQ ps i) n Pl.up (-1) = pAt ps n Pl.up (-1) := fun n hne => pAt_get (outQ_len _ _) (fun j y e hy => ⟨_, Gs j y hy, if_neg (fun e2 => hne (by omega))⟩)
    have ab : ∀ m, m ≠ (i : Int) → abv (outQ ps i) m = abv ps m := fun m hm => by unfold abv; rw [hin, hup m hm]
    intro j hj
    rw [outQ_len] at hj
    obtain ⟨l, hl⟩ := h.ac j hj
    refine hl.turn ab ?_
    have hil := (List.getElem?_eq_some_iff.1 hx).1
    have hu : pAt (outQ ps i) (i : Int) Pl.up (-1) = -1 := by
      have : (outQ ps i)[i]? = some { x with up := if i = i then -1 else x.up, kids := x.kids.erase (i : Int) } := by rw [G, hx]; rfl
      rw [pAt_some this]; simp
    by_cases hp : pAt ps ((i : Int) - 1) Pl.inner (-1) = i
    · -- an inner page: its place was none
      have hi0 : 0 < i := by
        rcases Nat.eq_zero_or_pos i with e | e
        · rw [e, pAt_neg (by omega)] at hp; omega
        · exact e
      have e1 : abv (outQ ps i) (i : Int) = (i : Int) - 1 := by
        unfold abv
        rw [if_neg (by omega), hu, if_neg (by omega), hin, if_pos hp]
      rw [e1]
      obtain ⟨z, hz⟩ : ∃ z, ps[i - 1]? = some z := ⟨_, List.getElem?_eq_getElem (by omega)⟩
      have h4 : pAt ps ((i : Int) - 1) Pl.inner (-1) = z.inner := by
        rw [show (i : Int) - 1 = ((i - 1 : Nat) : Int) by omega, pAt_some hz]
      rw [h4] at hp
      have hk1 : x.kind = 1 := by
        rcases h.inn (i - 1) z hz with e | ⟨e, _, y, hy, e2⟩
        · omega
        · rw [show i - 1 + 1 = i by omega, hx] at hy
          cases hy
          exact e2
      have hux := (h.pg i x hx hk1).1
      have e2 : abv ps (i : Int) = (i : Int) - 1 := by
        unfold abv
        rw [if_neg (by omega), pAt_some hx, hux, if_neg (by omega), h4, if_pos hp]
      obtain ⟨s, hs⟩ := h.ac i hil
      cases hs with
      | cons h0 hs =>
        have hnm := (Path.cons h0 hs).nodup
        rw [e2] at hs
        exact ⟨_, hs.same (fun m hm => ab m (fun e => by subst e; exact (List.nodup_cons.1 hnm).1 hm))⟩
    · have e1 : abv (outQ ps i) (i : Int) = -1 := by
        unfold abv
        rw [if_neg (by omega), hu, if_neg (by omega), hin, if_neg hp]
      rw [e1]
      exact ⟨_, .nil⟩

theorem outQ_at {ps : List Pl} (h : Tr ps) {i : Nat} {x : Pl} (hx : ps[i]? = some x) (j : Nat) (y : Pl) (hy : ps[j]? = some y) : (outQ ps i)[j]? = some { y with up := if j = i then -1 else y.up, kids := y.kids.erase (i : Int) } := by
  rw [outQ_get h hx, hy]; rfl
theorem outQ_abv {ps : List Pl} (h : Tr ps) {i : Nat} {x : Pl} (hx : ps[i]? = some x) (m : Int) (hm : m ≠ i) : abv (outQ ps i) m = abv ps m := by
  have Gs := outQ_at h hx
  have hin : ∀ n, pAt (outQ ps i) n Pl.inner (-1) = pAt ps n Pl.inner (-1) := fun n => pAt_get (outQ_len _ _) (fun j y _ hy => ⟨_, Gs j y hy, rfl⟩)
  have hup : pAt (outQ ps i) m Pl.up (-1) = pAt ps m Pl.up (-1) := pAt_get (outQ_len _ _) (fun j y e hy => ⟨_, Gs j y hy, if_neg (fun e2 => hm (by omega))⟩)
  unfold abv
  rw [hin, hup]
def insL (l : List Int) (k : Nat) (n : Int) : List Int := l.take k ++ n :: l.drop k
theorem insL_mem {l : List Int} {k : Nat} {n m : Int} : m ∈ insL l k n ↔ m = n ∨ m ∈ l := by
  unfold insL
  rw [List.mem_append, List.mem_cons]
  constructor
  · rintro (h | h | h)
    · exact .inr (List.mem_of_mem_take h)
    · exact .inl h
    · exact .inr (List.mem_of_mem_drop h)
  · rintro (h | h)
    · exact .inr (.inl h)
    · rw [← List.take_append_drop k l, List.mem_append] at h
      rcases h with h | h
      · exact .inl h
      · exact .inr (.inr h)
theorem insL_nodup {l : List Int} {k : Nat} {n : Int} (h : l.Nodup) (hn : n ∉ l) : (insL l k n).Nodup := by
  unfold insL
  have h0 := h
  rw [← List.take_append_drop k l, List.nodup_append] at h
  obtain ⟨h1, h2, h3⟩ := h
  rw [List.nodup_append]
  refine ⟨h1, List.nodup_cons.2 ⟨fun hm => hn (List.mem_of_mem_drop hm), h2⟩, ?_⟩
  intro a ha b hb
  rcases List.mem_cons.1 hb with rfl | hb
  · exact fun e => hn (e ▸ List.mem_of_mem_take ha)
  · exact h3 a ha b hb
/-- a node that stands nowhere laid beneath another one -/
def attQ (ps : List Pl) (p : Nat) (k : Nat) (i : Nat) : List Pl := md (md ps p (fun y => { y with kids := insL y.kids k i })) i (fun x => { x with up := p })
theorem attQ_len (ps : List Pl) (p k i : Nat) : (attQ ps p k i).length = ps.length := by unfold attQ; rw [md_len, md_len]
theorem attQ_get (ps : List Pl) (p k i : Nat) (j : Nat) (y : Pl) (hy : ps[j]? = some y) : (attQ ps p k i)[j]? = some { y with up := if j = i then (p : Int) else y.up, kids := if j = p then insL y.kids k i else y.kids } := by
  unfold attQ
  rw [md_get, md_get, hy]
  by_cases e : j = i
  · by_cases e2 : j = p
    · simp only [if_pos e, if_pos e2]; rfl
    · simp only [if_pos e, if_neg e2]; rfl
  · by_cases e2 : j = p
    · simp only [if_neg e, if_pos e2]; rfl
    · simp only [if_neg e, if_neg e2]
theorem attQ_tr {ps : List Pl} (h : Tr ps) {i p : Nat} {x y : Pl} (hx : ps[i]? = some x) (hy : ps[p]? = some y) (hu : x.up = -1) (hk : x.kind ≠ 1) (hyk : y.kind ≤ 2) {l : List Int} (hl : Path (abv ps) p l) (hn : (i : Int) ∉ l) (k : Nat) : Tr (attQ ps p k i) := by
  have Gs := attQ_get ps p k i
  have inv : ∀ (j : Nat) y', (attQ ps p k i)[j]? = some y' → ∃ y, ps[j]? = some y ∧ y' = { y with up := if j = i then (p : Int) else y.up, kids := if j = p then insL y.kids k i else y.kids } := by
    intro j y' hy
    have hj : j < ps.length := by rw [← attQ_len ps p k i]; exact (List.getElem?_eq_some_iff.1 hy).1
    have h1 := List.getElem?_eq_getElem hj
    have h2 := Gs j _ h1
    rw [h2] at hy
    exact ⟨_, h1, (Option.some.inj hy).symm⟩
  have nomem : ∀ (j : Nat) z, ps[j]? = some z → (i : Int) ∉ z.kids := by
    intro j z hz hm
    obtain ⟨q, z2, e, hz2, hu2⟩ := h.kup j z hz i hm
    have : i = q := by omega
    subst this
    rw [hx] at hz2
    cases hz2
    omega
  have hpi : p ≠ i := by
    intro e
    subst e
    cases hl with
    | cons _ _ => exact hn (List.mem_cons_self ..)
  constructor
  · intro j y' hy'
    obtain ⟨z, hz, rfl⟩ := inv j y' hy'
    refine ⟨(h.kd j z hz).1, fun e => ?_⟩
    simp only at e
    by_cases e2 : j = p
    · subst e2
      rw [hy] at hz
      cases hz
      exact hyk
    · rw [if_neg e2] at e
      exact (h.kd j z hz).2 e
  · intro j y' hy'
    obtain ⟨z, hz, rfl⟩ := inv j y' hy'
    by_cases e : j = i
    · right
      refine ⟨p, _, if_pos e, Gs p y hy, ?_⟩
      simp only [if_true]
      rw [insL_mem]
      exact .inl (by omega)
    · rcases h.up j z hz with h1 | ⟨q, z2, h1, hz2, hm⟩
      · exact .inl ((if_neg e).trans h1)
      · refine .inr ⟨q, _, (if_neg e).trans h1, Gs q z2 hz2, ?_⟩
        simp only
        split
        · rw [insL_mem]; exact .inr hm
        · exact hm
  · intro j y' hy' m hm
    obtain ⟨z, hz, rfl⟩ := inv j y' hy'
    simp only at hm
    have old : m ∈ z.kids → ∃ (j' : Nat) (y : Pl), m = (j' : Int) ∧ (attQ ps p k i)[j']? = some y ∧ y.up = (j : Int) := by
      intro hm
      obtain ⟨q, z2, e, hz2, hu2⟩ := h.kup j z hz m hm
      refine ⟨q, _, e, Gs q z2 hz2, ?_⟩
      have : ¬ q = i := fun e2 => nomem j z hz (by rw [← e2, ← e]; exact hm)
      exact (if_neg this).trans hu2
    by_cases e2 : j = p
    · rw [if_pos e2, insL_mem] at hm
      rcases hm with hm | hm
      · exact ⟨i, _, hm, Gs i x hx, (if_pos rfl).trans (by rw [e2])⟩
      · exact old hm
    · rw [if_neg e2] at hm
      exact old hm
  · intro j y' hy'
    obtain ⟨z, hz, rfl⟩ := inv j y' hy'
    simp only
    split
    · exact insL_nodup (h.nd j z hz) (nomem j z hz)
    · exact h.nd j z hz
  · intro j y' hy'
    obtain ⟨z, hz, rfl⟩ := inv j y' hy'
    rcases h.inn j z hz with e | ⟨e1, e2, z2, hz2, e3⟩
    · exact .inl e
    · exact .inr ⟨e1, e2, _, Gs _ z2 hz2, e3⟩
  · intro j y' hy' hk1
    obtain ⟨z, hz, rfl⟩ := inv j y' hy'
    have h1 := h.pg j z hz hk1
    have : ¬ j = i := fun e => by
      subst e
      rw [hx] at hz
      cases hz
      exact hk hk1
    exact ⟨(if_neg this).trans h1.1, h1.2⟩
  · intro j y' hy'
    obtain ⟨z, hz, rfl⟩ := inv j y' hy'
    exact h.nm j z hz
  · have hin : ∀ n, pAt (attQ ps p k i) n Pl.inner (-1) = pAt ps n Pl.inner (-1) := fun n => pAt_get (attQ_len _ _ _ _) (fun j y _ hy => ⟨_, Gs j y hy, rfl⟩)
    have hup : ∀ n, n ≠ (i : Int) → pAt (attQ ps p k i) n Pl.up (-1) = pAt ps n Pl.up (-1) := fun n hne => pAt_get (attQ_len _ _ _ _) (fun j y e hy => ⟨_, Gs j y hy, if_neg (fun e2 => hne (by omega))⟩)
    have ab : ∀ m, m ≠ (i : Int) → abv (attQ ps p k i) m = abv ps m := fun m hm => by unfold abv; rw [hin, hup m hm]
    intro j hj
    rw [attQ_len] at hj
    obtain ⟨s, hs⟩ := h.ac j hj
    refine hs.turn ab ?_
    have e1 : abv (attQ ps p k i) (i : Int) = p := by
      unfold abv
      rw [pAt_some (Gs i x hx)]
      simp only [if_true]
      rw [if_neg (by omega), if_pos (by omega)]
    rw [e1]
    exact ⟨l, hl.same (fun m hm => ab m (fun e => hn (e ▸ hm)))⟩
def inQ (ps : List Pl) (n : Int) : Bool := decide (0 ≤ n) && decide (n < ps.length)
theorem inQ_at {ps : List Pl} {n : Int} (h : inQ ps n = true) : ∃ (i : Nat) (x : Pl), n = i ∧ ps[i]? = some x := by
  unfold inQ at h
  simp only [Bool.and_eq_true, decide_eq_true_eq] at h
  exact ⟨n.toNat, ps[n.toNat]'(by omega), by omega, List.getElem?_eq_getElem (by omega)⟩
theorem inQ_of {ps : List Pl} {i : Nat} {x : Pl} (hx : ps[i]? = some x) : inQ ps i = true := by
  have := (List.getElem?_eq_some_iff.1 hx).1
  unfold inQ
  rw [decide_eq_true (by omega), decide_eq_true (by omega)]
  rfl
def plQ (ps : List Pl) (up before : Int) : Int := if before = -1 then ((pAt ps up Pl.kids []).length : Int) else Lib.idxOf (pAt ps up Pl.kids []) before
def badQ (ps : List Pl) (up n before : Int) : Bool := !inQ ps up || !inQ ps n || pAt ps n Pl.kind 0 == 1 || before == n || decide (2 < pAt ps up Pl.kind 0) || ben ps n up
def putEQ (ps : List Pl) (up n before : Int) : Int := if badQ ps up n before then 1 else if plQ ps up before < 0 then 4 else 0
def putQ (ps : List Pl) (up n before : Int) : List Pl := if putEQ ps up n before = 0 then attQ (outQ ps n) up.toNat (plQ (outQ ps n) up before).toNat n.toNat else ps
theorem putEQ_ok {ps : List Pl} {up n before : Int} (h : putEQ ps up n before = 0) : badQ ps up n before = false ∧ 0 ≤ plQ ps up before := by
  unfold putEQ at h
  split at h
  · omega
  · rename_i h1
    split at h
    · omega
    · rename_i h2
      exact ⟨by simpa using h1, by omega⟩
theorem badQ_no {ps : List Pl} {up n before : Int} (h : badQ ps up n before = false) : ∃ (p i : Nat) (y x : Pl), up = p ∧ n = i ∧ ps[p]? = some y ∧ ps[i]? = some x ∧ x.kind ≠ 1 ∧ before ≠ n ∧ y.kind ≤ 2 ∧ ben ps n up = false := by
  unfold badQ at h
  simp only [Bool.or_eq_false_iff, Bool.not_eq_false', beq_eq_false_iff_ne, decide_eq_false_iff_not] at h
  obtain ⟨⟨⟨⟨⟨h1, h2⟩, h3⟩, h4⟩, h5⟩, h6⟩ := h
  obtain ⟨p, y, rfl, hy⟩ := inQ_at h1
  obtain ⟨i, x, rfl, hx⟩ := inQ_at h2
  rw [pAt_some hx] at h3
  rw [pAt_some hy] at h5
  exact ⟨p, i, y, x, rfl, rfl, hy, hx, h3, h4, by omega, h6⟩
theorem putQ_len (ps : List Pl) (up n before : Int) : (putQ ps up n before).length = ps.length := by
  unfold putQ
  split
  · rw [attQ_len, outQ_len]
  · rfl
theorem putQ_tr {ps : List Pl} (h : Tr ps) (up n before : Int) : Tr (putQ ps up n before) := by
  unfold putQ
  split
  · rename_i h0
    obtain ⟨hb, _⟩ := putEQ_ok h0
    obtain ⟨p, i, y, x, rfl, rfl, hy, hx, hk, _, hyk, hben⟩ := badQ_no hb
    have hpl := (List.getElem?_eq_some_iff.1 hy).1
    obtain ⟨l, hl, _, e⟩ := h.ben (n := (p : Int)) (a := (i : Int)) (by omega) (by omega)
    rw [hben] at e
    have hni : (i : Int) ∉ l := by simpa using e.symm
    have hl2 : Path (abv (outQ ps i)) p l := hl.same (fun m hm => outQ_abv h hx m (fun e => hni (e ▸ hm)))
    simp only [Int.toNat_natCast]
    exact attQ_tr (outQ_tr h hx) (outQ_at h hx i x hx) (outQ_at h hx p y hy) (if_pos rfl) hk hyk hl2 hni _
  · exact h
/-- nodes more, at the end -/
theorem pAt_push {β : Type} {ps xs : List Pl} {n : Int} {f : Pl → β} {d : β} (h : n < ps.length) : pAt (ps ++ xs) n f d = pAt ps n f d := by
  unfold pAt
  split
  · rw [List.getElem?_append_left (by omega)]
  · rfl
theorem tr_push {ps xs : List Pl} (h : Tr ps) (hx : ∀ (j : Nat) x, xs[j]? = some x → x.up = -1 ∧ x.kids = [] ∧ 1 ≤ x.kind ∧ (x.inner = -1 ∨ (x.inner = ((ps.length + j : Nat) : Int) + 1 ∧ x.kind = 2 ∧ ∃ y, xs[j + 1]? = some y ∧ y.kind = 1))) (h2 : xs.length ≤ 2) (h3 : ∀ (j : Nat) x, xs[j]? = some x → Nmd x := by exact nmd_tx _) : Tr (ps ++ xs) := by
  have sp : ∀ (j : Nat) y, (ps ++ xs)[j]? = some y → ps[j]? = some y ∨ ∃ q, j = ps.length + q ∧ xs[q]? = some y := by
    intro j y hy
    rcases Nat.lt_or_ge j ps.length with hlt | hge
    · rw [List.getElem?_append_left hlt] at hy; exact .inl hy
    · rw [List.getElem?_append_right hge] at hy; exact .inr ⟨j - ps.length, by omega, hy⟩
  have lf : ∀ (j : Nat) y, ps[j]? = some y → (ps ++ xs)[j]? = some y := fun j y hy => by
    rw [List.getElem?_append_left (List.getElem?_eq_some_iff.1 hy).1]; exact hy
  have rt : ∀ (q : Nat), (ps ++ xs)[ps.length + q]? = xs[q]? := fun q => by
    rw [List.getElem?_append_right (Nat.le_add_right ..), Nat.add_sub_cancel_left]
  constructor
  · intro j y hy
    rcases sp j y hy with hy | ⟨q, _, hq⟩
    · exact h.kd j y hy
    · obtain ⟨_, a, b, _⟩ := hx q y hq
      exact ⟨b, fun e => absurd a e⟩
  · intro j y hy
    rcases sp j y hy with hy | ⟨q, _, hq⟩
    · rcases h.up j y hy with e | ⟨k, z, e, hz, hm⟩
      · exact .inl e
      · exact .inr ⟨k, z, e, lf k z hz, hm⟩
    · exact .inl (hx q y hq).1
  · intro j y hy k hk
    rcases sp j y hy with hy | ⟨q, _, hq⟩
    · obtain ⟨a, z, e, hz, hu⟩ := h.kup j y hy k hk
      exact ⟨a, z, e, lf a z hz, hu⟩
    · rw [(hx q y hq).2.1] at hk; cases hk
  · intro j y hy
    rcases sp j y hy with hy | ⟨q, _, hq⟩
    · exact h.nd j y hy
    · rw [(hx q y hq).2.1]; exact List.nodup_nil
  · intro j y hy
    rcases sp j y hy with hy | ⟨q, rfl, hq⟩
    · rcases h.inn j y hy with e | ⟨e1, e2, z, hz, e3⟩
      · exact .inl e
      · exact .inr ⟨e1, e2, z, lf _ z hz, e3⟩
    · rcases (hx q y hq).2.2.2 with e | ⟨e1, e2, z, hz, e3⟩
      · exact .inl e
      · exact .inr ⟨e1, e2, z, by rw [Nat.add_assoc, rt]; exact hz, e3⟩
  · intro j y hy hk
    rcases sp j y hy with hy | ⟨q, _, hq⟩
    · exact h.pg j y hy hk
    · obtain ⟨a, _, _, b⟩ := hx q y hq
      refine ⟨a, ?_⟩
      rcases b with e | ⟨_, e, _⟩
      · exact e
      · omega
  · intro j y hy
    rcases sp j y hy with hy | ⟨q, _, hq⟩
    · exact h.nm j y hy
    · exact h3 q y hq
  · have ab : ∀ m : Int, m < ps.length → abv (ps ++ xs) m = abv ps m := fun m hm => by
      unfold abv
      rw [pAt_push hm, pAt_push (by omega)]
    have old : ∀ (j : Nat), j < ps.length → ∃ l, Path (abv (ps ++ xs)) j l := fun j hj => by
      obtain ⟨l, hl⟩ := h.ac j hj
      exact ⟨l, hl.same (fun m hm => ab m (h.path_in hl (by omega) m hm).2)⟩
    have innone : ∀ m : Int, m < ps.length → pAt (ps ++ xs) m Pl.inner (-1) ≠ ps.length := fun m hm e => by
      rw [pAt_push hm] at e
      rcases Int.lt_or_le m 0 with h0 | h0
      · rw [pAt_neg h0] at e; omega
      · obtain ⟨i, rfl⟩ : ∃ i : Nat, m = i := ⟨m.toNat, by omega⟩
        have hg := List.getElem?_eq_getElem (l := ps) (i := i) (by omega)
        rw [pAt_some hg] at e
        rcases h.inn i _ hg with e1 | ⟨e1, _, z, hz, _⟩
        · omega
        · have := (List.getElem?_eq_some_iff.1 hz).1
          omega
    -- the first of the new ones stands nowhere
    have first : ∀ x, xs[0]? = some x → abv (ps ++ xs) (ps.length : Int) = -1 := fun x h0 => by
      have h3 := rt 0
      rw [Nat.add_zero, h0] at h3
      unfold abv
      rw [if_neg (by omega), pAt_some h3, (hx 0 x h0).1, if_neg (by omega), if_neg (innone _ (by omega))]
    intro j hj
    rw [List.length_append] at hj
    rcases Nat.lt_or_ge j ps.length with hlt | hge
    · exact old j hlt
    · obtain ⟨x0, h0⟩ : ∃ x, xs[0]? = some x := ⟨_, List.getElem?_eq_getElem (by omega)⟩
      by_cases e : j = ps.length
      · subst e
        exact ⟨_, .cons (by omega) (by rw [first x0 h0]; exact .nil)⟩
      · have e1 : j = ps.length + 1 := by omega
        subst e1
        obtain ⟨x1, h1⟩ : ∃ x, xs[1]? = some x := ⟨_, List.getElem?_eq_getElem (by omega)⟩
        have h3 := rt 1
        rw [h1] at h3
        have h4 := rt 0
        rw [Nat.add_zero, h0] at h4
        by_cases e2 : x0.inner = ((ps.length + 1 : Nat) : Int)
        · have : abv (ps ++ xs) ((ps.length + 1 : Nat) : Int) = ps.length := by
            unfold abv
            rw [if_neg (by omega), pAt_some h3, (hx 1 x1 h1).1, if_neg (by omega), show ((ps.length + 1 : Nat) : Int) - 1 = (ps.length : Nat) by omega, pAt_some h4, if_pos e2]
          exact ⟨_, .cons (by omega) (by rw [this]; exact .cons (by omega) (by rw [first x0 h0]; exact .nil))⟩
        · have : abv (ps ++ xs) ((ps.length + 1 : Nat) : Int) = -1 := by
            unfold abv
            rw [if_neg (by omega), pAt_some h3, (hx 1 x1 h1).1, if_neg (by omega), show ((ps.length + 1 : Nat) : Int) - 1 = (ps.length : Nat) by omega, pAt_some h4, if_neg e2]
          exact ⟨_, .cons (by omega) (by rw [this]; exact .nil)⟩
/-- a node's text turned -/
theorem tr_md {ps : List Pl} (h : Tr ps) (i : Nat) (f : Pl → Pl) (hf : ∀ x, (f x).kind = x.kind ∧ (f x).up = x.up ∧ (f x).kids = x.kids ∧ (f x).inner = x.inner) (hf2 : ∀ x, ps[i]? = some x → Nmd x → Nmd (f x)) : Tr (md ps i f) := by
  have G := md_get ps i f
  have inv : ∀ (j : Nat) y', (md ps i f)[j]? = some y' → ∃ y, ps[j]? = some y ∧ y'.kind = y.kind ∧ y'.up = y.up ∧ y'.kids = y.kids ∧ y'.inner = y.inner := by
    intro j y' hy
    rw [G] at hy
    split at hy
    · cases hj : ps[j]? with
      | none => rw [hj] at hy; cases hy
      | some y =>
        rw [hj] at hy
        simp only [Option.map_some, Option.some.injEq] at hy
        subst hy
        exact ⟨y, rfl, hf y⟩
    · exact ⟨y', hy, rfl, rfl, rfl, rfl⟩
  have Gs : ∀ (j : Nat) y, ps[j]? = some y → ∃ y', (md ps i f)[j]? = some y' ∧ y'.kind = y.kind ∧ y'.up = y.up ∧ y'.kids = y.kids ∧ y'.inner = y.inner := by
    intro j y hy
    rw [G, hy]
    split
    · exact ⟨_, rfl, hf y⟩
    · exact ⟨_, rfl, rfl, rfl, rfl, rfl⟩
  have hl := md_len ps i f
  constructor
  · intro j y' hy
    obtain ⟨y, hy, a, b, c, d⟩ := inv j y' hy
    rw [a, c]; exact h.kd j y hy
  · intro j y' hy
    obtain ⟨y, hy, a, b, c, d⟩ := inv j y' hy
    rw [b]
    rcases h.up j y hy with e | ⟨k, z, e, hz, hm⟩
    · exact .inl e
    · obtain ⟨z', hz', _, _, c', _⟩ := Gs k z hz
      exact .inr ⟨k, z', e, hz', by rw [c']; exact hm⟩
  · intro j y' hy k hk
    obtain ⟨y, hy, a, b, c, d⟩ := inv j y' hy
    rw [c] at hk
    obtain ⟨q, z, e, hz, hu⟩ := h.kup j y hy k hk
    obtain ⟨z', hz', _, b', _, _⟩ := Gs q z hz
    exact ⟨q, z', e, hz', b'.trans hu⟩
  · intro j y' hy
    obtain ⟨y, hy, a, b, c, d⟩ := inv j y' hy
    rw [c]; exact h.nd j y hy
  · intro j y' hy
    obtain ⟨y, hy, a, b, c, d⟩ := inv j y' hy
    rw [d, a]
    rcases h.inn j y hy with e | ⟨e1, e2, z, hz, e3⟩
    · exact .inl e
    · obtain ⟨z', hz', a', _⟩ := Gs _ z hz
      exact .inr ⟨e1, e2, z', hz', a'.trans e3⟩
  · intro j y' hy hk
    obtain ⟨y, hy, a, b, c, d⟩ := inv j y' hy
    rw [b, d]; exact h.pg j y hy (a ▸ hk)
  · intro j y' hy
    rw [G] at hy
    split at hy
    · rename_i e
      subst e
      cases hj : ps[j]? with
      | none => rw [hj] at hy; cases hy
      | some y =>
        rw [hj] at hy
        simp only [Option.map_some, Option.some.injEq] at hy
        subst hy
        exact hf2 y hj (h.nm j y hj)
    · exact h.nm j y' hy
  · have e : abv (md ps i f) = abv ps := by
      funext m
      unfold abv
      rw [pAt_get hl (g := Pl.up) (f := Pl.up) (n := m) (fun j y _ hy => by obtain ⟨y', h1, _, h2, _⟩ := Gs j y hy; exact ⟨y', h1, h2⟩), pAt_get hl (g := Pl.inner) (f := Pl.inner) (n := m - 1) (fun j y _ hy => by obtain ⟨y', h1, _, _, _, h2⟩ := Gs j y hy; exact ⟨y', h1, h2⟩)]
    rw [e, hl]
    exact h.ac
def sayI (ps : List Pl) (up before : Int) : Option Nat := if 0 < plQ ps up before then
    match (pAt ps up Pl.kids [])[(plQ ps up before).toNat - 1]? with
    | some l => if pAt ps l Pl.kind 0 == 3 then some l.toNat else none
    | none => none
  else none
theorem sayI_kind {ps : List Pl} {up before : Int} {l : Nat} {x : Pl} (h : sayI ps up before = some l) (hx : ps[l]? = some x) : x.kind = 3 := by
  unfold sayI at h
  split at h
  · split at h
    · rename_i k _
      split at h
      · rename_i hk
        injection h with h
        subst h
        rcases Int.lt_or_le k 0 with h0 | h0
        · rw [pAt_neg h0] at hk; cases hk
        · obtain ⟨i, rfl⟩ : ∃ i : Nat, k = i := ⟨k.toNat, by omega⟩
          rw [Int.toNat_natCast] at hx
          rw [pAt_some hx] at hk
          simpa using hk
      · cases h
    · cases h
  · cases h
def sayQ (ps : List Pl) (up : Int) (s : ByteArray) (before : Int) : List Pl × Int :=
  if inQ ps up = false ∨ s.toList = [] then (ps, 1)
  else if plQ ps up before < 0 then (ps, 4)
  else match sayI ps up before with
    | some l => (md ps l (fun x => { x with data := x.data ++ s }), 0)
    | none => (putQ (ps ++ [txQ s]) up ps.length before, putEQ (ps ++ [txQ s]) up ps.length before)
theorem sayQ_tr {ps : List Pl} (h : Tr ps) (up : Int) (s : ByteArray) (before : Int) : Tr (sayQ ps up s before).1 := by
  unfold sayQ
  split
  · exact h
  · split
    · exact h
    · split
      · rename_i l hl
        refine tr_md h _ _ (fun x => ⟨rfl, rfl, rfl, rfl⟩) (fun x hx hn => ⟨fun e => ?_, hn.2⟩)
        exfalso
        have hk := sayI_kind hl hx
        have e : x.kind = 1 := e
        omega
      · refine putQ_tr (tr_push h (fun j x hx => ?_) (by simp)) _ _ _
        match j, hx with
        | 0, hx => simp at hx; subst hx; exact ⟨rfl, rfl, (show (1 : Int) ≤ 3 by omega), .inl rfl⟩
        | j + 1, hx => simp at hx
def mvQ (up : Int) : List Int → List Pl → List Pl × Int
  | [], ps => (ps, 0)
  | k :: ks, ps => if putEQ ps up k (-1) = 0 then mvQ up ks (putQ ps up k (-1)) else (ps, putEQ ps up k (-1))
theorem mvQ_tr {up : Int} : ∀ (ks : List Int) {ps : List Pl}, Tr ps → Tr (mvQ up ks ps).1
  | [], _, h => h
  | k :: ks, ps, h => by
    unfold mvQ
    split
    · exact mvQ_tr ks (putQ_tr h _ _ _)
    · exact h
theorem Tr.kids_le {ps : List Pl} (h : Tr ps) {i : Nat} {x : Pl} (hx : ps[i]? = some x) : x.kids.length ≤ ps.length :=
  pigeon _ _ (h.nd i x hx) (fun k hk => by
    obtain ⟨j, y, e, hy, _⟩ := h.kup i x hx k hk
    have := (List.getElem?_eq_some_iff.1 hy).1
    omega)
end Go.Proofs.Ytodlcfhkiilpgaa
namespace Go.Proofs.Ytodlcfhkiilpgaa
open Go.RowKit

theorem infoInt : (Try.prog.info? 3).map (fun i => (i.zero, i.size, i.bytes)) = some (some (.int .i64 0), 1, 8) := by kernel_rfl
abbrev nilS : Value := .slice none 0 0
/-- the slice v reads as l; from its end to its capacity there are cells -/
def RI (w : World) (v : Value) (l : List Int) : Prop :=
  (v = nilS ∧ l = []) ∨ ∃ (g cap : Nat) (cur : Array Value), v = .slice (some ⟨g, 0, none⟩) l.length cap ∧ w.heap[g]? = some (.cells cur 3 (0, 0)) ∧ l.length ≤ cap ∧ cap ≤ cur.size ∧ cap ≤ maxLen ∧ cur.toList.take l.length = l.map (Value.int .i64)

section
variable {w w' : World} {v : Value} {l : List Int}
theorem RI.nil : RI w nilS [] := .inl ⟨rfl, rfl⟩
theorem RI.form (h : RI w v l) : ∃ A cap, v = .slice A l.length cap ∧ (A = none → cap = 0) ∧ l.length ≤ cap ∧ Rd w .i64 A l := by
  rcases h with ⟨rfl, rfl⟩ | ⟨g, cap, cur, rfl, hg, hn, hc, _, ht⟩
  · exact ⟨none, 0, rfl, fun _ => rfl, Nat.le_refl _, .inl rfl⟩
  · refine ⟨some ⟨g, 0, none⟩, cap, rfl, (fun e => by cases e), hn, .inr ⟨g, 0, rfl, (Array.getElem?_eq_some_iff.1 hg).1, fun i hi => ?_⟩⟩
    simp only [World.cell?, hg]
    have h1 : (cur.toList.take l.length)[i]? = some (.int .i64 (l[i]?.getD 0)) := by
      rw [ht, List.getElem?_map, List.getElem?_eq_getElem hi]; rfl
    rw [List.getElem?_take, if_pos hi, Array.getElem?_toList] at h1
    simpa using h1
theorem RI.ofBlock (h : RI w v l) (hb : ∀ g, v.ownBlock = some g → w'.heap[g]? = w.heap[g]?) : RI w' v l := by
  rcases h with h | ⟨g, cap, cur, rfl, hg, h2⟩
  · exact .inl h
  · exact .inr ⟨g, cap, cur, rfl, (hb g rfl).trans hg, h2⟩
theorem RI.keep (h : RI w v l) (hb : Below w.heap.size w w') : RI w' v l := by
  rcases h with h | ⟨g, cap, cur, rfl, hg, h2⟩
  · exact .inl h
  · exact .inr ⟨g, cap, cur, rfl, (hb.block g (Array.getElem?_eq_some_iff.1 hg).1).trans hg, h2⟩
theorem RI.lt (h : RI w v l) {g : Nat} (e : v.ownBlock = some g) : g < w.heap.size := by
  rcases h with ⟨rfl, _⟩ | ⟨g', cap, cur, rfl, hg, _⟩
  · cases e
  · cases e
    exact (Array.getElem?_eq_some_iff.1 hg).1
theorem RI.far (h : RI w v l) {row : Option Nat} (hg : w.grownBy w' row) (hne : ∀ g, v.ownBlock = some g → row ≠ some g) : RI w' v l :=
  h.ofBlock (fun g e => hg.block g (h.lt e) (fun h' => hne g e h'.symm))
theorem RI.own {base : Nat} (h : w.ownsRow base 3 1 v l.length (l.map (Value.int .i64))) : RI w v l := by
  rcases h.2 with ⟨rfl, hn⟩ | ⟨g, cap, cur, rfl, _, hg, hnc, hcm, hcs, ht⟩
  · exact .inl ⟨rfl, List.eq_nil_of_length_eq_zero hn⟩
  · exact .inr ⟨g, cap, cur, rfl, hg, hnc, by omega, hcm, by simpa using ht⟩
end

/-- there is room behind the slice's end -/
def SpI (v : Value) (l : List Int) : Prop := ∃ A cap, v = .slice A l.length cap ∧ l.length < cap
/-- the longer slice: the old one, or one in a new block -/
def AtI (B : Nat) (v : Value) (l m : List Int) (v' : Value) : Prop :=
  (∃ A cap, v = .slice A l.length cap ∧ v' = .slice A (l ++ m).length cap ∧ (l.length < cap ∨ m = [])) ∨ ∃ g, v'.ownBlock = some g ∧ B ≤ g
theorem AtI.own {B : Nat} {v v' : Value} {l m : List Int} (h : AtI B v l m v') : v'.ownBlock = v.ownBlock ∨ ∃ g, v'.ownBlock = some g ∧ B ≤ g := by
  rcases h with ⟨A, cap, rfl, rfl, _⟩ | h
  · left
    cases A <;> rfl
  · exact .inr h
theorem AtI.mono {B B' : Nat} {v v' : Value} {l m : List Int} (h : AtI B v l m v') (hB : B' ≤ B) : AtI B' v l m v' := by
  rcases h with h | ⟨g, h, hg⟩
  · exact .inl h
  · exact .inr ⟨g, h, Nat.le_trans hB hg⟩
/-- what an append leaves: the longer slice, in its old row or a new one; all that reads no further than the old slice -/
structure ApI (w : World) (v : Value) (l m : List Int) (v' : Value) (w' : World) : Prop where
  rd : RI w' v' (l ++ m)
  grown : w.grownBy w' v.ownBlock
  at_ : AtI w.heap.size v l m v'
  stay : ∀ t lt, RI w t lt → (t.ownBlock = v.ownBlock → SpI v l → lt.length ≤ l.length) → RI w' t lt

theorem run_append_ri {w : World} {v : Value} {l m : List Int} {B : Option Addr} {cb : Nat} (ty : TypeId) (hv : RI w v l) (hd : Rd w .i64 B m) (hB : B = none → cb = 0) (hb : l.length + m.length ≤ 100000000) :
    ∃ v' w', (Builtin.append_ #[27, 27] ty #[v, .slice B m.length cb]).run Try.prog w = .ok v' w' ∧ ApI w v l m v' w' := by
  obtain ⟨i0, hi, hz0, hz1, hz2⟩ := info_parts infoInt
  cases B with
  | none =>
    have hm : m = [] := by
      rcases hd with h | ⟨b, off, h, _⟩
      · exact h
      · cases h
    subst hm
    obtain rfl : cb = 0 := hB rfl
    refine ⟨v, w, ?_, ⟨by simpa using hv, ⟨rfl, rfl, rfl, Nat.le_refl _, fun _ _ _ => rfl⟩, ?_, fun _ _ h _ => h⟩⟩
    rotate_left
    · rcases hv with ⟨rfl, rfl⟩ | ⟨g, cap, cur, rfl, _⟩
      · exact .inl ⟨none, 0, rfl, rfl, .inr rfl⟩
      · exact .inl ⟨_, _, rfl, by simp, .inr rfl⟩
    rcases hv with ⟨rfl, rfl⟩ | ⟨g, cap, cur, rfl, hg, hn, _⟩
    · simp [nilS, Builtin.append_, run_underlying Try.underlying27, sizeOf, typeInfo, hi, Builtin.lenOf, Builtin.firstCells]
    · simp [Builtin.append_, run_underlying Try.underlying27, sizeOf, typeInfo, hi, Builtin.lenOf, Builtin.firstCells, hn, storeCells]
  | some ad =>
    rcases hv with ⟨rfl, rfl⟩ | ⟨g, cap, cur, rfl, hg, hn, hc, hcm, ht⟩
    · obtain ⟨v', w', hrun, h2, h3, _, h5⟩ := run_append_own_at (P := Try.prog) w w.heap.size 27 ty 3 i0 (.int .i64 0) 1 8 Try.underlying27 hi hz0 hz1 hz2 rfl (by decide) nilS 0 [] (World.ownsRow_nil w _ _ _) ad m.length cb (m.map (Value.int .i64)) (by simp) hd.add (ints_one m) (by unfold maxLen; simp at hb; omega) (by simp at hb; omega) (Nat.le_refl _)
      refine ⟨v', w', hrun, ⟨RI.own (base := w.heap.size) (by simpa using h2), h3, ?_, fun t lt h _ => h.far h3 (fun g _ e => by cases e)⟩⟩
      rcases h5 with h5 | h5
      · rcases h2.2 with ⟨rfl, hn0⟩ | ⟨g, cap, cur, rfl, _⟩
        · have : m = [] := List.eq_nil_of_length_eq_zero (by simpa using hn0)
          subst this
          exact .inl ⟨none, 0, rfl, rfl, .inr rfl⟩
        · cases h5
      · exact .inr ⟨_, h5, Nat.le_refl _⟩
    · by_cases hroom : l.length + m.length ≤ cap
      · have hr := run_append_room (P := Try.prog) w 27 ty 3 i0 Try.underlying27 hi g l.length cap cur hg ad m.length cb (m.map (Value.int .i64)) (by simp [hz1]) hd.add (ints_one m) hroom (by simp [hz1]; omega)
        rw [hz1] at hr
        simp only [Nat.mul_one, List.length_map] at hr
        have hheap := setRow_heap w g cur (cur.toList.take l.length ++ m.map (Value.int .i64) ++ cur.toList.drop (l.length + m.length)).toArray 3 (0, 0) hg
        refine ⟨_, _, hr, ⟨.inr ⟨g, cap, _, by simp, hheap, by simpa using hroom, ?_, hcm, ?_⟩, ⟨rfl, rfl, rfl, by simp, fun k _ hk => setRow_other w g k _ (fun e => hk (by simp [Value.ownBlock, e]))⟩, .inl ⟨_, cap, rfl, by simp, by
          rcases Nat.lt_or_ge l.length cap with h | h
          · exact .inl h
          · exact .inr (List.eq_nil_of_length_eq_zero (by omega))⟩, ?_⟩⟩
        · simp
          omega
        · rw [ht, ← List.map_append]
          have : (l ++ m).length = ((l ++ m).map (Value.int .i64)).length := by simp
          rw [this]
          exact List.take_left
        · intro t lt h hle
          rcases h with h | ⟨g2, cap2, cur2, rfl, hg2, h3, h4, h5, h6⟩
          · exact .inl h
          · by_cases e : g2 = g
            · subst e
              rw [hg] at hg2
              injection hg2 with hg2
              injection hg2 with hg2
              subst hg2
              rcases Nat.lt_or_ge l.length cap with hsp | hsp
              rotate_left
              · have hm0 : m = [] := List.eq_nil_of_length_eq_zero (by omega)
                subst hm0
                have hsame : (cur.toList.take l.length ++ ([] : List Int).map (Value.int .i64) ++ cur.toList.drop (l.length + ([] : List Int).length)).toArray = cur := by simp
                rw [hsame] at hheap
                exact .inr ⟨g2, cap2, cur, rfl, by rw [hsame]; exact hheap, h3, h4, h5, h6⟩
              have hl := hle rfl ⟨_, cap, rfl, hsp⟩
              refine .inr ⟨g2, cap2, _, rfl, hheap, h3, ?_, h5, ?_⟩
              · simp
                omega
              · rw [List.append_assoc, List.toList_toArray, List.take_append_of_le_length (by simp; omega), List.take_take, Nat.min_eq_left hl]
                exact h6
            · exact .inr ⟨g2, cap2, cur2, rfl, (setRow_other w g g2 _ e).trans hg2, h3, h4, h5, h6⟩
      · have holds : ∀ j u, (l.map (Value.int .i64))[j]? = some u → w.cell? ((⟨g, 0, none⟩ : Addr).add j) = some u := by
          obtain ⟨A, c, e, _, _, hrd⟩ := (show RI w (.slice (some ⟨g, 0, none⟩) l.length cap) l from .inr ⟨g, cap, cur, rfl, hg, hn, hc, hcm, ht⟩).form
          injection e with e1 e2 e3
          subst e1
          exact hrd.add
        have hsm : l.length + m.length ≤ maxLen := by unfold maxLen; omega
        have hr := run_append_grow (P := Try.prog) w 27 ty 3 i0 (.int .i64 0) Try.underlying27 hi hz0 ⟨g, 0, none⟩ l.length cap (l.map (Value.int .i64)) (by simp [hz1]) holds ad m.length cb (m.map (Value.int .i64)) (by simp [hz1]) hd.add (by omega) (by omega) (growslice_fits (by omega) (by rw [hz2]; omega))
        have hge := grownCap_ge w (l.length + m.length) cap 3
        refine ⟨_, _, hr, ⟨.inr ⟨w.heap.size, grownCap w (l.length + m.length) cap 3, _, by rw [List.length_append], heap_alloc_new w.drew _, by simpa using hge, ?_, grownCap_le_maxLen w _ _ _ hsm, ?_⟩, ⟨rfl, rfl, rfl, by simp, fun k hk _ => Below.heap_alloc w.drew _ k hk⟩, .inr ⟨_, rfl, Nat.le_refl _⟩, ?_⟩⟩
        · rw [Array.size_append, size_zeroCells, show (Value.int .i64 0).cells.size = 1 from rfl]
          simp
          omega
        · simp only [Array.toList_append, ← List.map_append]
          have : (l ++ m).length = ((l ++ m).map (Value.int .i64)).length := by simp
          rw [this]
          exact List.take_left
        · intro t lt h _
          exact h.ofBlock (fun k e => Below.heap_alloc w.drew _ k (h.lt e))

theorem wp_append_ri {w : World} {o : Oper} {a : Act} {K : Act → World → Prop} {Q : Exit → Act → World → Prop} (s x : Operand) (ho : o.op = .call { callee := .builtin .append, args := #[s, x], argTypes := #[27, 27] })
    (v : Value) (l m : List Int) (B : Option Addr) (n cb : Nat) (hn : n = m.length) (hs : a.eval s = v) (hx : a.eval x = .slice B n cb) (hv : RI w v l) (hd : Rd w .i64 B m) (hB : B = none → cb = 0) (hb : l.length + m.length ≤ 100000000)
    (h : ∀ v' w', ApI w v l m v' w' → K (a.put o.dst v') w') : o.wp Try.prog a w K Q := by
  subst hn
  obtain ⟨v', w', hrun, h2⟩ := run_append_ri o.type hv hd hB hb
  unfold Oper.wp execOp
  simp only [ho, resolve, invoke, builtin, Sem.run_bind, Sem.run_pure, Result.andThen_ok, List.map_toArray, List.map_cons, List.map_nil, hs, hx, hrun]
  exact h v' w' h2
theorem step_append_ri {w : World} {ops : Array Oper} {o : Oper} {a : Act} {K : Act → World → Prop} {Q : Exit → Act → World → Prop} {E : Prop} (hgd : o.guard = none) (s x : Operand) (ho : o.op = .call { callee := .builtin .append, args := #[s, x], argTypes := #[27, 27] })
    (v : Value) (l m : List Int) (B : Option Addr) (n cb : Nat) (hn : n = m.length) (hs : a.eval s = v) (hx : a.eval x = .slice B n cb) (hv : RI w v l) (hd : Rd w .i64 B m) (hB : B = none → cb = 0) (hb : l.length + m.length ≤ 100000000)
    (h : ∀ v' w', ApI w v l m v' w' → K (a.put o.dst v') w') : if Region.wanted o (yielded ops a.tmps) = true then Oper.wp Try.prog o a w K Q else E := by
  have hw : Region.wanted o (yielded ops a.tmps) = true := by simp [Region.wanted, hgd]
  rw [if_pos hw]
  exact wp_append_ri s x ho v l m B n cb hn hs hx hv hd hB hb h

theorem wpList_append_ri {w : World} {ops : Array Oper} {rest : List Oper} {o : Oper} {a : Act} {Q : Exit → Act → World → Prop} (hgd : o.guard = none) (s x : Operand) (ho : o.op = .call { callee := .builtin .append, args := #[s, x], argTypes := #[27, 27] })
    (v : Value) (l m : List Int) (B : Option Addr) (n cb : Nat) (hn : n = m.length) (hs : a.eval s = v) (hx : a.eval x = .slice B n cb) (hv : RI w v l) (hd : Rd w .i64 B m) (hB : B = none → cb = 0) (hb : l.length + m.length ≤ 100000000)
    (h : ∀ v' w', ApI w v l m v' w' → wpList Try.prog ops Q rest (a.put o.dst v') w') : wpList Try.prog ops Q (o :: rest) a w :=
  wpList_plain hgd fun _ hK => wp_append_ri s x ho v l m B n cb hn hs hx hv hd hB hb fun v' w' h1 => hK _ _ (h v' w' h1)
end Go.Proofs.Ytodlcfhkiilpgaa
namespace Go.Proofs.Ytodlcfhkiilpgaa
open Go.RowKit Go.Shelf Go.Lib

/-- an append onto a row of its own, in a region that draws its order -/
theorem step_append_rdL {w : World} {ops : Array Oper} {o : Oper} {a : Act} {K : Act → World → Prop} {Q : Exit → Act → World → Prop} {E : Prop} (hw : Region.wanted o (yielded ops a.tmps) = true) (s x : Operand) (ho : o.op = .call { callee := .builtin .append, args := #[s, x], argTypes := #[27, 27] })
    (base : Nat) (v : Value) (n : Nat) (xs : List Int) (hs : a.eval s = v) (hown : w.ownsRow base 3 1 v n (xs.map (Value.int .i64))) (A : Option Addr) (m c : Nat) (hx : a.eval x = .slice A m c) (news : List Int) (hm : news.length = m) (hrd : Rd w .i64 A news) (hnone : A = none → c = 0)
    (hn : n + m ≤ 100000000) (hbase : base ≤ w.heap.size)
    (h : ∀ v' w', w'.ownsRow base 3 1 v' (n + m) ((xs ++ news).map (Value.int .i64)) → w.grownBy w' v.ownBlock → K (a.put o.dst v') w') : if Region.wanted o (yielded ops a.tmps) = true then Oper.wp Try.prog o a w K Q else E := by
  obtain ⟨i0, hi, hz0, hz1, hz2⟩ := info_parts infoInt
  rw [if_pos hw]
  cases A with
  | none =>
    obtain rfl : news = [] := by
      rcases hrd with h | ⟨b, off, h, _⟩
      · exact h
      · cases h
    obtain rfl : m = 0 := by simpa using hm.symm
    obtain rfl : c = 0 := hnone rfl
    have hrun := run_append_owned_none (P := Try.prog) (w := w) base 27 o.type 3 i0 1 Try.underlying27 hi v n _ hown
    unfold Oper.wp execOp
    simp only [ho, resolve, invoke, builtin, Sem.run_bind, Sem.run_pure, Result.andThen_ok, List.map_toArray, List.map_cons, List.map_nil, hs, hx, hrun]
    exact h v w (by simpa using hown) ⟨rfl, rfl, rfl, Nat.le_refl _, fun _ _ _ => rfl⟩
  | some ad =>
    obtain ⟨v', w', hrun, h2, h3, _, _⟩ := run_append_own_at (P := Try.prog) w base 27 o.type 3 i0 _ 1 8 Try.underlying27 hi hz0 hz1 hz2 rfl (by decide) v n _ hown ad m c (news.map (Value.int .i64)) (by simp [hm]) hrd.add (ints_one news) (by unfold maxLen; omega) (by omega) hbase
    unfold Oper.wp execOp
    simp only [ho, resolve, invoke, builtin, Sem.run_bind, Sem.run_pure, Result.andThen_ok, List.map_toArray, List.map_cons, List.map_nil, hs, hx, hrun]
    exact h v' w' (by rw [List.map_append]; exact h2) h3
theorem rd_takeL {w : World} {b o k : Nat} {xs : List Int} (h : Rd w .i64 (some ⟨b, o, none⟩) xs) : Rd w .i64 (some ⟨b, o, none⟩) (xs.take k) := by
  rcases h with rfl | ⟨b', o', hA, hb, hc⟩
  · exact .inl (by simp)
  · refine .inr ⟨b', o', hA, hb, fun i hi => ?_⟩
    rw [List.length_take] at hi
    rw [hc i (by omega), List.getElem?_take, if_pos (by omega)]
theorem rd_dropL {w : World} {b o k : Nat} {xs : List Int} (h : Rd w .i64 (some ⟨b, o, none⟩) xs) : Rd w .i64 (some ⟨b, o + k, none⟩) (xs.drop k) := by
  rcases h with rfl | ⟨b', o', hA, hb, hc⟩
  · exact .inl (by simp)
  · injection hA with hA
    injection hA with h1 h2
    subst h1 h2
    by_cases hk : xs.length ≤ k
    · exact .inl (List.drop_eq_nil_of_le hk)
    · refine .inr ⟨b, o + k, rfl, hb, fun i hi => ?_⟩
      rw [List.length_drop] at hi
      rw [Nat.add_assoc, hc (k + i) (by omega), List.getElem?_drop]
theorem rd_take0 {w : World} {A : Option Addr} {k : Nat} {xs : List Int} (h : Rd w .i64 A xs) : Rd w .i64 A (xs.take k) := by
  cases A with
  | none =>
    rcases h with rfl | ⟨b, o, hA, _⟩
    · exact .inl (by simp)
    · cases hA
  | some ad =>
    obtain ⟨b, o, e⟩ := ad
    rcases h with rfl | ⟨b', o', hA, h⟩
    · exact .inl (by simp)
    · injection hA with hA
      injection hA with h1 h2 h3
      subst h1 h2 h3
      exact rd_takeL (.inr ⟨_, _, rfl, h⟩)
end Go.Proofs.Ytodlcfhkiilpgaa
namespace Go.Proofs.Ytodlcfhkiilpgaa
open Go.RowKit Go.Shelf Go.Lib
attribute [local go_sem] Oper.semAt_some

theorem idxOf_at (xs : List Int) (n : Int) (k : Nat) (hk : xs[k]? = some n) (hne : ∀ j : Nat, j < k → xs[j]? ≠ some n) : Lib.idxOf xs n = k := by
  have hl := (List.getElem?_eq_some_iff.1 hk).1
  have := Lib.idxOf_hit xs xs.length k n hl (Nat.le_refl _) (by simp [List.getD, hk]) (fun j hj e => by
    have hjl : j < xs.length := by omega
    rw [List.getD_eq_getElem?_getD, List.getElem?_eq_getElem hjl] at e
    exact hne j hj (by rw [List.getElem?_eq_getElem hjl]; exact congrArg some e))
  rw [List.take_length] at this
  exact this
theorem idxOf_no (xs : List Int) (n : Int) (hne : ∀ j : Nat, j < xs.length → xs[j]? ≠ some n) : Lib.idxOf xs n = -1 := by
  have := Lib.idxOf_miss xs xs.length n (fun j hj e => by
    rw [List.getD_eq_getElem?_getD, List.getElem?_eq_getElem hj] at e
    exact hne j hj (by rw [List.getElem?_eq_getElem hj]; exact congrArg some e))
  rw [List.take_length] at this
  exact this
theorem at_any (xs : List Int) (n : Int) (A : Option Addr) (cap : Nat) (W : World) (h : Rd W .i64 A xs) (hl : xs.length ≤ 1000000) :
    Calls Try.prog 55 #[.slice A xs.length cap, .int .i64 n] W fun e W' => e = .returned (.int .i64 (Lib.idxOf xs n)) ∧ W' = W := by
  have H := Lib.hid h
  clear h
  go_enter Try.func55, Try.ntmps55
  go_wp2
  go_loop [9] (fun kv => ∃ k : Nat, k ≤ xs.length ∧ kv = .int .i64 k ∧ Hid (∀ j : Nat, j < k → xs[j]? ≠ some n)) (fun kv => xs.length - (RowKit.intOf kv).toNat)
  case atStart => exact ⟨0, Nat.zero_le _, rfl, Lib.hid (fun j hj => absurd hj (Nat.not_lt_zero _))⟩
  case round =>
    obtain ⟨k, hk, rfl, HN⟩ := hrel
    by_cases hlt : k < xs.length
    · obtain ⟨x, hx⟩ : ∃ x, xs[k]? = some x := ⟨_, List.getElem?_eq_getElem hlt⟩
      obtain ⟨b, off, rfl, hb, hc⟩ := H.out.pos (by omega)
      have c0 : W.cell? ⟨b, off + k, none⟩ = some (.int .i64 x) := by rw [hc k hlt, hx]; rfl
      have dk : decide ((k : Int) < (xs.length : Int)) = true := decide_eq_true (by omega)
      have HX := Lib.hid hx
      clear hx hc
      by_cases hxn : x = n
      · have tx : (x == n) = true := by rw [beq_iff_eq]; exact hxn
        have HV := Lib.hid (idxOf_at xs n k (by rw [HX.out, hxn]) HN.out)
        clear hxn
        go_wp2
        go_ret
        exact ⟨by rw [HV.out]; rfl, rfl⟩
      · have tx : (x == n) = false := by rw [beq_eq_false_iff_ne]; exact hxn
        have HN2 : Hid (∀ j : Nat, j < k + 1 → xs[j]? ≠ some n) := Lib.hid (fun j hj => by
          by_cases e : j = k
          · subst e
            rw [HX.out]
            exact fun h => hxn (Option.some.inj h)
          · exact HN.out j (by omega))
        clear hxn
        go_wp2
        go_round
        case rel => exact ⟨k + 1, by omega, by go_num, HN2⟩
        case measure => simp [RowKit.intOf]; omega
    · obtain rfl : k = xs.length := by omega
      have dk : decide ((xs.length : Int) < (xs.length : Int)) = false := decide_eq_false (by omega)
      have HV := Lib.hid (idxOf_no xs n HN.out)
      go_wp2
      go_ret
      exact ⟨by rw [HV.out]; rfl, rfl⟩
/-- a list without the one at a place -/
theorem cut_any (xs : List Int) (k : Nat) (A : Option Addr) (co : Nat) (w : World) (h : Rd w .i64 A xs) (hk : k < xs.length) (hlx : xs.length ≤ 1000000) (hlc : xs.length ≤ co) (hcm : co ≤ maxLen) :
    Calls Try.prog 82 #[.slice A xs.length co, .int .i64 k] w fun e w' => ∃ v, e = .returned v ∧ w'.ownsRow w.heap.size 3 1 v (xs.eraseIdx k).length ((xs.eraseIdx k).map (Value.int .i64)) ∧ Below w.heap.size w w' := by
  obtain ⟨bq, oq, rfl, hbq, _⟩ := h.pos (by omega)
  have HVAL := Lib.hid (show xs.eraseIdx k = xs.take k ++ xs.drop (k + 1) from List.eraseIdx_eq_take_drop_succ ..)
  have HRA := Lib.hid (rd_takeL (k := k) h)
  have HRB := Lib.hid (rd_dropL (k := k + 1) h)
  unfold maxLen at hcm
  have hkc : (k : Int) ≤ (co : Int) := by omega
  have hkc2 : k ≤ co := by omega
  have hkn : (k : Int) + 1 ≤ (xs.length : Int) := by omega
  have hkn2 : k + 1 ≤ xs.length := by omega
  have nk : (0 : Int) ≤ (k : Int) + 1 := by omega
  have tk : ((k : Int) + 1).toNat = k + 1 := by omega
  have wk : IntKind.i64.wrap ((k : Int) + 1) = (k : Int) + 1 := by rw [IntKind.wrap_i64]; omega
  have HL1 := Lib.hid (show (xs.take k).length = k by simp; omega)
  have HL22 := Lib.hid (show (xs.drop (k + 1)).length = xs.length - (k + 1) by simp)
  have HBA : Hid (Below w.heap.size w (w.drew.alloc (.cells #[] 3))) := Lib.hid ((Below.refl _ w).drew.alloc (Nat.le_refl _) _)
  have HC1 : Hid (xs.length ≤ co) := Lib.hid hlc
  clear h hlc
  by_cases hcap : co = k + 1
  · have HNIL := Lib.hid (show xs.drop (k + 1) = [] from List.drop_eq_nil_of_le (by have := HC1.out; omega))
    have hcl : xs.length ≤ k + 1 := by have := HC1.out; omega
    subst hcap
    clear hkc
    have hkc : (k : Int) ≤ (k : Int) + 1 := by omega
    go_enter Try.func82, Try.ntmps82
    go_wp2_with fail
    go_region_law (first
      | (refine step_append_rdL (by rfl) _ _ (by rfl) w.heap.size (.slice (some ⟨w.heap.size, 0, none⟩) 0 0) 0 [] rfl (World.ownsRow_lit w.drew #[] 0 (Nat.le_refl _) (by decide) rfl) (some ⟨bq, oq, none⟩) k (k + 1) rfl (xs.take k) HL1.out (HRA.out.below HBA.out) (fun e => by cases e) (by omega) HBA.out.size ?_; intro v5 w5 hown5 hg5; have hb5 : Below w.heap.size w w5 := HBA.out.grown hg5 HBA.out.size (fun j e => (by cases e; exact Nat.le_refl _)); rw [List.nil_append, Nat.zero_add] at hown5; clear hg5)
      | (refine step_append_rdL (by rfl) _ _ (by rfl) w.heap.size v5 k (xs.take k) rfl hown5 (some ⟨bq, oq, none⟩) 0 0 rfl [] rfl (.inl rfl) (fun e => by cases e) (by omega) hb5.size ?_; intro v6 w6 hown6 hg6; have hb6 : Below w.heap.size w w6 := hb5.grown hg6 hb5.size (fun j e => (hown5.lt j e).1)))
    all_goals
      rw [← HNIL.out] at hown6
      have hlen : (xs.eraseIdx k).length = k + 0 := by rw [HVAL.out, List.length_append, HL1.out, HNIL.out]; rfl
      have HO : Hid (w6.ownsRow w.heap.size 3 1 v6 (xs.eraseIdx k).length ((xs.eraseIdx k).map (Value.int .i64))) := Lib.hid (by rw [hlen, HVAL.out]; exact hown6)
      go_wp2
      go_ret
      exact ⟨v6, rfl, HO.out, hb6⟩
  · go_enter Try.func82, Try.ntmps82
    go_wp2_with fail
    go_region_law (first
      | (refine step_append_rdL (by rfl) _ _ (by rfl) w.heap.size (.slice (some ⟨w.heap.size, 0, none⟩) 0 0) 0 [] rfl (World.ownsRow_lit w.drew #[] 0 (Nat.le_refl _) (by decide) rfl) (some ⟨bq, oq, none⟩) k co rfl (xs.take k) HL1.out (HRA.out.below HBA.out) (fun e => by cases e) (by omega) HBA.out.size ?_; intro v5 w5 hown5 hg5; have hb5 : Below w.heap.size w w5 := HBA.out.grown hg5 HBA.out.size (fun j e => (by cases e; exact Nat.le_refl _)); rw [List.nil_append, Nat.zero_add] at hown5; clear hg5)
      | (refine step_append_rdL (by rfl) _ _ (by rfl) w.heap.size v5 k (xs.take k) rfl hown5 (some ⟨bq, oq + (k + 1), none⟩) (xs.length - (k + 1)) (co - (k + 1)) rfl (xs.drop (k + 1)) HL22.out (HRB.out.below hb5) (fun e => by cases e) (by omega) hb5.size ?_; intro v6 w6 hown6 hg6; have hb6 : Below w.heap.size w w6 := hb5.grown hg6 hb5.size (fun j e => (hown5.lt j e).1)))
    all_goals
      have hlen : (xs.eraseIdx k).length = k + (xs.length - (k + 1)) := by rw [HVAL.out, List.length_append, HL1.out, HL22.out]
      have HO : Hid (w6.ownsRow w.heap.size 3 1 v6 (xs.eraseIdx k).length ((xs.eraseIdx k).map (Value.int .i64))) := Lib.hid (by rw [hlen, HVAL.out]; exact hown6)
      go_wp2
      go_ret
      exact ⟨v6, rfl, HO.out, hb6⟩
end Go.Proofs.Ytodlcfhkiilpgaa
namespace Go.Proofs.Ytodlcfhkiilpgaa
open Go.RowKit Go.Shelf Go.Lib
attribute [local go_sem] Oper.semAt_some

theorem rd_oneL (w : World) (n : Int) : Rd (w.alloc (.cells #[.int .i64 n] 3)) .i64 (some ⟨w.heap.size, 0, none⟩) [n] := by
  refine .inr ⟨w.heap.size, 0, rfl, by rw [World.size_alloc]; omega, fun j hj => ?_⟩
  match j, hj with
  | 0, _ => rw [cell_of_row _ _ _ _ _ _ (heap_alloc_new w _)]; rfl
set_option maxRecDepth 100000 in
set_option maxHeartbeats 2000000 in
theorem with_any (xs : List Int) (k : Nat) (n : Int) (A : Option Addr) (co : Nat) (w : World) (h : Rd w .i64 A xs) (hA : (A = none ∧ co = 0) ∨ ∃ b o, A = some ⟨b, o, none⟩) (hk : k ≤ xs.length) (hlx : xs.length ≤ 1000000) (hlc : xs.length ≤ co) (hcm : co ≤ maxLen) :
    Calls Try.prog 81 #[.slice A xs.length co, .int .i64 k, .int .i64 n] w fun e w' => ∃ v, e = .returned v ∧ w'.ownsRow w.heap.size 3 1 v (insL xs k n).length ((insL xs k n).map (Value.int .i64)) ∧ Below w.heap.size w w' := by
  obtain ⟨i0, hi, hz0, hz1, hz2⟩ := info_parts infoInt
  have hkc : (k : Int) ≤ (co : Int) := by omega
  have hkc2 : k ≤ co := by omega
  have hkn : (k : Int) ≤ (xs.length : Int) := by omega
  have H1 : Below w.heap.size w (w.alloc (.cells #[] 3)) := (Below.refl _ w).alloc (Nat.le_refl _) _
  have HB1 := Lib.hid H1
  have HO1 : Hid ((w.alloc (.cells #[] 3)).ownsRow w.heap.size 3 1 (.slice (some ⟨w.heap.size, 0, none⟩) 0 0) 0 []) := Lib.hid (World.ownsRow_lit w #[] 0 (Nat.le_refl _) (by decide) rfl)
  have HLC : Hid (xs.length ≤ co) := Lib.hid hlc
  have HR := Lib.hid h
  have HL1 : Hid ((xs.take k).length = k) := Lib.hid (by simp; omega)
  have HL2 : Hid ((xs.drop k).length = xs.length - k) := Lib.hid (by simp)
  have HK := Lib.hid hk
  have B1 : Hid (k ≤ 1000000) := Lib.hid (by omega)
  have HLX : Hid (xs.length ≤ 1000000) := Lib.hid hlx
  have HLN : Hid ((insL xs k n).length = k + 1 + (xs.length - k)) := Lib.hid (by unfold insL; simp; omega)
  have HVL : Hid ((insL xs k n).map (Value.int .i64) = (xs.take k).map (Value.int .i64) ++ [n].map (Value.int .i64) ++ (xs.drop k).map (Value.int .i64)) := Lib.hid (by unfold insL; simp)
  have m1 : ∀ m : Nat, m ≤ 1000001 → m ≤ maxLen := fun m hm => by unfold maxLen; omega
  have M1 := Lib.hid m1
  unfold maxLen at hcm
  clear H1 h hlx m1
  have S3 : ∀ (A2 : Option Addr) (m c : Nat) (w6 : World) (v6 : Value), (xs.drop k).length = m → Rd w6 .i64 A2 (xs.drop k) → (A2 = none → c = 0) → w6.ownsRow w.heap.size 3 1 v6 (k + 1) ((xs.take k).map (Value.int .i64) ++ [n].map (Value.int .i64)) → w.heap.size ≤ w6.heap.size →
      ∀ {ops : Array Oper} {rest : List Oper} {o : Oper} {a : Act} {Q : Exit → Act → World → Prop} {s x : Operand}, o.guard = none → o.op = .call { callee := .builtin .append, args := #[s, x], argTypes := #[27, 27] } → a.eval s = v6 → a.eval x = .slice A2 m c →
      (∀ v' w', w'.ownsRow w.heap.size 3 1 v' (insL xs k n).length ((insL xs k n).map (Value.int .i64)) → w6.grownBy w' v6.ownBlock → wpList Try.prog ops Q rest (a.put o.dst v') w') → wpList Try.prog ops Q (o :: rest) a w6 := by
    intro A2 m c w6 v6 hm hr hn ho hb ops rest o a Q s x hgd hop hs hx hK
    refine wpList_append_rd hgd 27 hop w.heap.size 3 i0 _ 8 Try.underlying27 hi hz0 hz1 hz2 v6 (k + 1) _ hs ho A2 m c hx (xs.drop k) .i64 hm hr hn rfl (M1.out _ (by have := HL2.out; have := HLX.out; have := HK.out; omega)) (by have := HL2.out; have := HLX.out; have := HK.out; omega) hb ?_
    intro v' w' ho' hg'
    refine hK v' w' ?_ hg'
    rw [HLN.out, HVL.out]
    have : k + 1 + m = k + 1 + (xs.length - k) := by rw [← hm, HL2.out]
    rw [← this]
    exact ho'
  have HS3 := Lib.hid S3
  clear S3
  rcases hA with ⟨rfl, rfl⟩ | ⟨bq, oq, rfl⟩
  · obtain rfl : xs = [] := by
      rcases HR.out with h | ⟨b, o, e, _⟩
      · exact h
      · cases e
    obtain rfl : k = 0 := by simpa using hk
    go_enter Try.func81, Try.ntmps81
    go_wp2_with (first
      | (at_builtin; refine HS3.out none 0 0 _ v6 rfl (.inl rfl) (fun _ => rfl) ho6 hb6.size rfl rfl rfl rfl ?_; intro v7 w7 ho7 hg7; have HO7 := Lib.hid ho7; have HB7 := Lib.hid (hb6.grown hg7 hb6.size (fun j e => (ho6.lt j e).1)); clear hg7 ho7)
      | (at_builtin; refine wpList_append_rd rfl 27 rfl w.heap.size 3 i0 _ 8 Try.underlying27 hi hz0 hz1 hz2 v5 _ _ rfl (own_keep ho5 ((Below.refl _ _).alloc (Nat.le_refl _) _)) (some ⟨w5.heap.size, 0, none⟩) 1 1 rfl [n] .i64 rfl (rd_oneL w5 n) (fun e => by cases e) rfl (M1.out _ (by have := B1.out; omega)) (by have := B1.out; omega) (by rw [World.size_alloc]; have := hb5.size; omega) ?_; intro v6 w6 ho6 hg6; have hb6 : Below w.heap.size w w6 := (hb5.alloc hb5.size _).grown hg6 (by rw [World.size_alloc]; have := hb5.size; omega) (fun j e => (ho5.lt j e).1); clear hg6)
      | (at_builtin; refine wpList_append_rd rfl 27 rfl w.heap.size 3 i0 _ 8 Try.underlying27 hi hz0 hz1 hz2 _ 0 [] rfl HO1.out none 0 0 rfl [] .i64 rfl (.inl rfl) (fun _ => rfl) rfl (by decide) (by decide) HB1.out.size ?_; intro v5 w5 ho5 hg5; have hb5 : Below w.heap.size w w5 := HB1.out.grown hg5 HB1.out.size (fun j e => (by cases e; exact Nat.le_refl _)); clear hg5))
    go_ret
    exact ⟨v7, rfl, HO7.out, HB7.out⟩
  · have HR1 := Lib.hid (rd_takeL (k := k) HR.out)
    have HR2 := Lib.hid (rd_dropL (k := k) HR.out)
    by_cases hcap : co = k
    · have HNIL := Lib.hid (show xs.drop k = [] from List.drop_eq_nil_of_le (by have := HLC.out; omega))
      subst hcap
      clear hkc
      have hkc : (co : Int) ≤ (co : Int) := Int.le_refl _
      have HZ : Hid ((xs.drop co).length = 0) := Lib.hid (by rw [HNIL.out]; rfl)
      go_enter Try.func81, Try.ntmps81
      go_wp2_with (first
        | (at_builtin; refine HS3.out (some ⟨bq, oq, none⟩) 0 0 _ v6 HZ.out (.inl HNIL.out) (fun _ => rfl) ho6 hb6.size rfl rfl rfl rfl ?_; intro v7 w7 ho7 hg7; have HO7 := Lib.hid ho7; have HB7 := Lib.hid (hb6.grown hg7 hb6.size (fun j e => (ho6.lt j e).1)); clear hg7 ho7)
        | (at_builtin; refine wpList_append_rd rfl 27 rfl w.heap.size 3 i0 _ 8 Try.underlying27 hi hz0 hz1 hz2 v5 _ _ rfl (own_keep ho5 ((Below.refl _ _).alloc (Nat.le_refl _) _)) (some ⟨w5.heap.size, 0, none⟩) 1 1 rfl [n] .i64 rfl (rd_oneL w5 n) (fun e => by cases e) rfl (M1.out _ (by have := B1.out; omega)) (by have := B1.out; omega) (by rw [World.size_alloc]; have := hb5.size; omega) ?_; intro v6 w6 ho6 hg6; have hb6 : Below w.heap.size w w6 := (hb5.alloc hb5.size _).grown hg6 (by rw [World.size_alloc]; have := hb5.size; omega) (fun j e => (ho5.lt j e).1); clear hg6)
        | (at_builtin; refine wpList_append_rd rfl 27 rfl w.heap.size 3 i0 _ 8 Try.underlying27 hi hz0 hz1 hz2 _ 0 [] rfl HO1.out (some ⟨bq, oq, none⟩) co co rfl (xs.take co) .i64 HL1.out (HR1.out.below HB1.out) (fun e => by cases e) rfl (M1.out _ (by have := B1.out; omega)) (by have := B1.out; omega) HB1.out.size ?_; intro v5 w5 ho5 hg5; have hb5 : Below w.heap.size w w5 := HB1.out.grown hg5 HB1.out.size (fun j e => (by cases e; exact Nat.le_refl _)); rw [List.nil_append, Nat.zero_add] at ho5; clear hg5))
      go_ret
      exact ⟨v7, rfl, HO7.out, HB7.out⟩
    · go_enter Try.func81, Try.ntmps81
      go_wp2_with (first
        | (at_builtin; refine HS3.out (some ⟨bq, oq + k, none⟩) (xs.length - k) (co - k) _ v6 HL2.out (HR2.out.below hb6) (fun e => by cases e) ho6 hb6.size rfl rfl rfl rfl ?_; intro v7 w7 ho7 hg7; have HO7 := Lib.hid ho7; have HB7 := Lib.hid (hb6.grown hg7 hb6.size (fun j e => (ho6.lt j e).1)); clear hg7 ho7)
        | (at_builtin; refine wpList_append_rd rfl 27 rfl w.heap.size 3 i0 _ 8 Try.underlying27 hi hz0 hz1 hz2 v5 _ _ rfl (own_keep ho5 ((Below.refl _ _).alloc (Nat.le_refl _) _)) (some ⟨w5.heap.size, 0, none⟩) 1 1 rfl [n] .i64 rfl (rd_oneL w5 n) (fun e => by cases e) rfl (M1.out _ (by have := B1.out; omega)) (by have := B1.out; omega) (by rw [World.size_alloc]; have := hb5.size; omega) ?_; intro v6 w6 ho6 hg6; have hb6 : Below w.heap.size w w6 := (hb5.alloc hb5.size _).grown hg6 (by rw [World.size_alloc]; have := hb5.size; omega) (fun j e => (ho5.lt j e).1); clear hg6)
        | (at_builtin; refine wpList_append_rd rfl 27 rfl w.heap.size 3 i0 _ 8 Try.underlying27 hi hz0 hz1 hz2 _ 0 [] rfl HO1.out (some ⟨bq, oq, none⟩) k co rfl (xs.take k) .i64 HL1.out (HR1.out.below HB1.out) (fun e => by cases e) rfl (M1.out _ (by have := B1.out; omega)) (by have := B1.out; omega) HB1.out.size ?_; intro v5 w5 ho5 hg5; have hb5 : Below w.heap.size w w5 := HB1.out.grown hg5 HB1.out.size (fun j e => (by cases e; exact Nat.le_refl _)); rw [List.nil_append, Nat.zero_add] at ho5; clear hg5))
      go_ret
      exact ⟨v7, rfl, HO7.out, HB7.out⟩
end Go.Proofs.Ytodlcfhkiilpgaa
