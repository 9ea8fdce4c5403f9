/- Plain functions for layer 2 (chars): the table of names, the longest name, numbers. -/
import Derived.WalkKit
namespace Go.Proofs.Ytdoglpaggmdnpaa
namespace Cx

/-- the names in order: bytes, sign, whether it may stand without its end -/
def tab : List (List UInt8 × Int × Bool) := [
  ([65, 77, 80], 38, true),
  ([65, 117, 109, 108], 196, true),
  ([69, 97, 99, 117, 116, 101], 201, true),
  ([71, 84], 62, true),
  ([76, 84], 60, true),
  ([79, 117, 109, 108], 214, true),
  ([85, 117, 109, 108], 220, true),
  ([97, 103, 114, 97, 118, 101], 224, true),
  ([97, 108, 112, 104, 97], 945, false),
  ([97, 109, 112], 38, true),
  ([97, 112, 111, 115], 39, false),
  ([97, 117, 109, 108], 228, true),
  ([98, 117, 108, 108], 8226, false),
  ([99, 99, 101, 100, 105, 108], 231, true),
  ([99, 101, 110, 116], 162, true),
  ([99, 111, 112, 121], 169, true),
  ([100, 101, 103], 176, true),
  ([100, 105, 118, 105, 100, 101], 247, true),
  ([101, 97, 99, 117, 116, 101], 233, true),
  ([101, 117, 114, 111], 8364, false),
  ([102, 114, 97, 99, 49, 50], 189, true),
  ([103, 116], 62, true),
  ([104, 101, 108, 108, 105, 112], 8230, false),
  ([105, 101, 120, 99, 108], 161, true),
  ([105, 110, 102, 105, 110], 8734, false),
  ([105, 113, 117, 101, 115, 116], 191, true),
  ([108, 97, 113, 117, 111], 171, true),
  ([108, 97, 114, 114], 8592, false),
  ([108, 100, 113, 117, 111], 8220, false),
  ([108, 101], 8804, false),
  ([108, 115, 113, 117, 111], 8216, false),
  ([108, 116], 60, true),
  ([109, 100, 97, 115, 104], 8212, false),
  ([109, 105, 99, 114, 111], 181, true),
  ([109, 105, 100, 100, 111, 116], 183, true),
  ([110, 98, 115, 112], 160, true),
  ([110, 100, 97, 115, 104], 8211, false),
  ([110, 101], 8800, false),
  ([110, 111, 116], 172, true),
  ([110, 111, 116, 105, 110], 8713, false),
  ([110, 116, 105, 108, 100, 101], 241, true),
  ([110, 118, 108, 116], 60, false),
  ([111, 109, 101, 103, 97], 969, false),
  ([111, 117, 109, 108], 246, true),
  ([112, 97, 114, 97], 182, true),
  ([112, 108, 117, 115, 109, 110], 177, true),
  ([112, 111, 117, 110, 100], 163, true),
  ([113, 117, 111, 116], 34, true),
  ([114, 97, 113, 117, 111], 187, true),
  ([114, 97, 114, 114], 8594, false),
  ([114, 100, 113, 117, 111], 8221, false),
  ([114, 101, 103], 174, true),
  ([114, 115, 113, 117, 111], 8217, false),
  ([115, 101, 99, 116], 167, true),
  ([115, 104, 121], 173, true),
  ([115, 117, 112, 50], 178, true),
  ([115, 122, 108, 105, 103], 223, true),
  ([116, 105, 109, 101, 115], 215, true),
  ([116, 114, 97, 100, 101], 8482, false),
  ([117, 117, 109, 108], 252, true),
  ([121, 101, 110], 165, true)]

def cells3 (e : List UInt8 × Int × Bool) : List Value := [.string ⟨e.1.toArray⟩, .int .i32 e.2.1, .bool e.2.2]
def ents : Array Value := (tab.flatMap cells3).toArray
def zeros : Array Value := ((List.replicate 61 ()).flatMap fun _ => [Value.string ⟨#[]⟩, .int .i32 0, .bool false]).toArray

/-- do these bytes stand in front of the signs? -/
def pre : List UInt8 → List Int → Bool
  | [], _ => true
  | _ :: _, [] => false
  | c :: r, x :: l => x == (c.toNat : Int) && pre r l

/-- how many signs a name takes, and whether its end is among them -/
def taken (rs : List Int) (nm : List UInt8) (bare : Bool) : Nat × Bool :=
  if pre nm rs then (if rs[nm.length]? = some 59 then (nm.length + 1, true) else if bare then (nm.length, false) else (0, false)) else (0, false)

theorem pre_iff (nm : List UInt8) (rs : List Int) : pre nm rs = true ↔ nm.length ≤ rs.length ∧ ∀ j, j < nm.length → rs[j]?.getD 0 = ((nm[j]?.getD 0).toNat : Int) := by
  induction nm generalizing rs with
  | nil => simp [pre]
  | cons c r ih =>
    cases rs with
    | nil => simp [pre]
    | cons x l =>
      simp only [pre, Bool.and_eq_true, beq_iff_eq, ih, List.length_cons]
      constructor
      · rintro ⟨hx, hl, h⟩
        refine ⟨by omega, fun j hj => ?_⟩
        cases j with
        | zero => simpa using hx
        | succ j => simpa using h j (by omega)
      · rintro ⟨hl, h⟩
        refine ⟨by simpa using h 0 (by omega), by omega, fun j hj => ?_⟩
        simpa using h (j + 1) (by omega)
theorem taken_short (rs : List Int) (nm : List UInt8) (bare : Bool) (h : rs.length < nm.length) : taken rs nm bare = (0, false) := by
  have : pre nm rs = false := by
    rw [Bool.eq_false_iff]
    intro hp
    have := (pre_iff nm rs).1 hp
    omega
  simp [taken, this]
theorem taken_miss (rs : List Int) (nm : List UInt8) (bare : Bool) (k : Nat) (hk : k < nm.length) (h : rs[k]?.getD 0 ≠ ((nm[k]?.getD 0).toNat : Int)) : taken rs nm bare = (0, false) := by
  have : pre nm rs = false := by
    rw [Bool.eq_false_iff]
    intro hp
    exact h (((pre_iff nm rs).1 hp).2 k hk)
  simp [taken, this]
theorem taken_semi (rs : List Int) (nm : List UInt8) (bare : Bool) (hp : pre nm rs = true) (h : rs[nm.length]? = some 59) : taken rs nm bare = (nm.length + 1, true) := by
  simp [taken, hp, h]
theorem taken_bare (rs : List Int) (nm : List UInt8) (bare : Bool) (hp : pre nm rs = true) (h : ¬ rs[nm.length]? = some 59) : taken rs nm bare = (if bare then (nm.length, false) else (0, false)) := by
  simp [taken, hp, h]

theorem flat3 {α β : Type} (f : α → List β) (hf : ∀ a, (f a).length = 3) : ∀ (l : List α) (k : Nat) (h : k < l.length), ((l.flatMap f).drop (k * 3)).take 3 = f l[k]
  | a :: l, 0, _ => by
    have := hf a
    simp [this]
  | a :: l, k + 1, h => by
    have := hf a
    have e : (k + 1) * 3 = (f a).length + k * 3 := by omega
    rw [List.flatMap_cons, e, List.drop_length_add_append, flat3 f hf l k (by simpa using h)]
    simp
theorem ents_at (k : Nat) (h : k < 61) : ents.extract (k * 3) (k * 3 + 3) = (cells3 (tab[k]?.getD ([], 0, false))).toArray := by
  have hk : k < tab.length := by rw [show tab.length = 61 from rfl]; exact h
  have := flat3 cells3 (fun _ => rfl) tab k hk
  rw [List.getElem?_eq_getElem hk, Option.getD_some, ← this, ents]
  apply Array.toList_inj.1
  simp [List.extract_eq_take_drop]
theorem tab_len : ∀ e ∈ tab, 0 < e.1.length ∧ e.1.length ≤ 10 := by decide
theorem tab_len' (k : Nat) (h : k < 61) (nm : List UInt8) (sg : Int) (bare : Bool) (he : tab[k]?.getD ([], 0, false) = (nm, sg, bare)) : 0 < nm.length ∧ nm.length ≤ 10 := by
  have hk : k < tab.length := h
  rw [List.getElem?_eq_getElem hk, Option.getD_some] at he
  have := tab_len tab[k] (List.getElem_mem hk)
  rw [he] at this
  exact this
theorem ents_cell (k : Nat) (h : k < 61) (nm : List UInt8) (sg : Int) (bare : Bool) (he : tab[k]?.getD ([], 0, false) = (nm, sg, bare)) :
    ents[k * 3]? = some (.string ⟨nm.toArray⟩) ∧ ents[k * 3 + 1]? = some (.int .i32 sg) ∧ ents[k * 3 + 2]? = some (.bool bare) := by
  have hx := ents_at k h
  rw [he] at hx
  have hg : ∀ j, j < 3 → (ents.extract (k * 3) (k * 3 + 3))[j]? = ents[k * 3 + j]? := fun j hj => by
    rw [Array.getElem?_extract]
    simp [show k * 3 + 3 ≤ 183 by omega, show ents.size = 183 from rfl]
    omega
  refine ⟨?_, ?_, ?_⟩
  · have := hg 0 (by omega); rw [hx] at this; simpa [cells3] using this.symm
  · have := hg 1 (by omega); rw [hx] at this; simpa [cells3] using this.symm
  · have := hg 2 (by omega); rw [hx] at this; simpa [cells3] using this.symm

/-- the longest name: the entry, how many signs, whether its end is there -/
def better (rs : List Int) (st : (List UInt8 × Int × Bool) × Nat × Bool) (e : List UInt8 × Int × Bool) : (List UInt8 × Int × Bool) × Nat × Bool :=
  if st.2.1 < (taken rs e.1 e.2.2).1 then (e, taken rs e.1 e.2.2) else st
def best (rs : List Int) (k : Nat) : (List UInt8 × Int × Bool) × Nat × Bool := (tab.take k).foldl (better rs) (([], 0, false), 0, false)
theorem best_succ (rs : List Int) (k : Nat) (h : k < 61) : best rs (k + 1) = better rs (best rs k) (tab[k]?.getD ([], 0, false)) := by
  have hk : k < tab.length := h
  unfold best
  rw [List.take_succ_eq_append_getElem hk, List.foldl_append, List.getElem?_eq_getElem hk]
  rfl
theorem best_keep (rs : List Int) (k : Nat) (h : k < 61) (nm : List UInt8) (sg : Int) (bare : Bool) (he : tab[k]?.getD ([], 0, false) = (nm, sg, bare)) (hn : ¬ (best rs k).2.1 < (taken rs nm bare).1) : best rs (k + 1) = best rs k := by
  rw [best_succ rs k h, he]; unfold better; rw [if_neg hn]
theorem best_take (rs : List Int) (k : Nat) (h : k < 61) (nm : List UInt8) (sg : Int) (bare : Bool) (he : tab[k]?.getD ([], 0, false) = (nm, sg, bare)) (hn : (best rs k).2.1 < (taken rs nm bare).1) : best rs (k + 1) = ((nm, sg, bare), taken rs nm bare) := by
  rw [best_succ rs k h, he]; unfold better; rw [if_pos hn]
def nvlt : List UInt8 := [110, 118, 108, 116]
def meaning (e : List UInt8 × Int × Bool) : List Int := if e.1 = nvlt then [e.2.1, 8402] else [e.2.1]
theorem meaning_head (e : List UInt8 × Int × Bool) : 1 ≤ (meaning e).length ∧ (meaning e).length ≤ 2 ∧ (meaning e)[0]?.getD 0 = e.2.1 := by
  unfold meaning
  split <;> simp
theorem taken_le (rs : List Int) (nm : List UInt8) (bare : Bool) : (taken rs nm bare).1 ≤ nm.length + 1 := by
  unfold taken
  (repeat' split) <;> simp
theorem best_le (rs : List Int) : ∀ k, k ≤ 61 → (best rs k).2.1 ≤ 11
  | 0, _ => by simp [best]
  | k + 1, h => by
    have ih := best_le rs k (by omega)
    rw [best_succ rs k (by omega)]
    have hk : k < tab.length := by rw [show tab.length = 61 from rfl]; omega
    unfold better
    split
    · have h1 := taken_le rs (tab[k]?.getD ([], 0, false)).1 (tab[k]?.getD ([], 0, false)).2.2
      rw [List.getElem?_eq_getElem hk, Option.getD_some] at h1 ⊢
      have h2 := tab_len tab[k] (List.getElem_mem hk)
      simp only
      omega
    · exact ih
theorem best_zero (rs : List Int) : ∀ k, k ≤ 61 → (best rs k).2.1 = 0 → (best rs k).2.2 = false
  | 0, _, _ => by simp [best]
  | k + 1, h, h0 => by
    have ih := best_zero rs k (by omega)
    rw [best_succ rs k (by omega)] at h0 ⊢
    unfold better at h0 ⊢
    split
    · rename_i hgt
      rw [if_pos hgt] at h0
      simp only at h0
      omega
    · rename_i hgt
      rw [if_neg hgt] at h0
      exact ih h0

/-- the signs that the longest name means -/
def found (rs : List Int) : List Int := if (best rs 61).2.1 = 0 then [] else meaning (best rs 61).1

/-- what the numbers from 128 to 159 mean -/
def windows : List Int := [8364, 129, 8218, 402, 8222, 8230, 8224, 8225, 710, 8240, 352, 8249, 338, 141, 381, 143, 144, 8216, 8217, 8220, 8221, 8226, 8211, 8212, 732, 8482, 353, 8250, 339, 157, 382, 376]
/-- the sign that a number means -/
def numeric (n : Int) : Int :=
  if n ≤ 0 ∨ 1114112 ≤ n ∨ 55296 ≤ n ∧ n ≤ 57343 then 65533 else if 128 ≤ n ∧ n ≤ 159 then windows[(n - 128).toNat]?.getD 0 else n
theorem windows_fin : ∀ k : Fin 32, (k.val + 128 = 129 ∨ k.val + 128 = 141 ∨ k.val + 128 = 143 ∨ k.val + 128 = 144 ∨ k.val + 128 = 157 → windows[k.val]?.getD 0 = (k.val : Int) + 128) ∧
    (¬ (k.val + 128 = 129 ∨ k.val + 128 = 141 ∨ k.val + 128 = 143 ∨ k.val + 128 = 144 ∨ k.val + 128 = 157) → 255 < windows[k.val]?.getD 0) ∧ 0 < windows[k.val]?.getD 0 ∧ windows[k.val]?.getD 0 ≤ 8482 := by decide
theorem numeric_ok (n : Int) : 0 ≤ numeric n ∧ numeric n ≤ 1114111 ∧ (numeric n < 55296 ∨ 57343 < numeric n) := by
  unfold numeric
  split
  · omega
  · split
    · rename_i h1 h2
      obtain ⟨_, _, f3, f4⟩ := windows_fin ⟨(n - 128).toNat, by omega⟩
      simp only at f3 f4
      omega
    · omega

end Cx
end Go.Proofs.Ytdoglpaggmdnpaa
