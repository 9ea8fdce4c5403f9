/- Rows of numbers: one taken out by the library's slices.Delete, a row of one's own made by slices.Clone; places in lists. -/
import Derived.Test.YtfkbjniodomdjaaQa
namespace Go.Proofs.Ytfkbjniodomdjaa
open Go.RowKit Go.Shelf Go.Lib

theorem grown_drewNd (w : World) (k : Nat) (row : Option Nat) : w.grownBy (w.drewN k) row := ⟨rfl, rfl, rfl, Nat.le_refl _, fun _ _ _ => rfl⟩
/-- what a call gives that takes the element at place i out of a row -/
def Dels (base : Nat) (e : TypeId) (v : Value) (n i : Nat) (xs : List Value) (w : World) (en : Ending) (w' : World) : Prop :=
  ∃ v', en = .returned v' ∧ w'.ownsRow base e 1 v' (n - 1) (xs.eraseIdx i) ∧ w.grownBy w' v.ownBlock ∧ v'.ownBlock = v.ownBlock
theorem del_of {w : World} {base g cap n i q : Nat} {e : TypeId} {cur : Array Value} {xs : List Value} {z : Value} (hb : base ≤ g) (hg : w.heap[g]? = some (.cells cur e (0, 0))) (hn : n ≤ cap) (hm : cap ≤ maxLen) (hcs : cur.size = cap) (hxl : xs.length = n) (hi : i < n) (vs : List Value) (hvs : vs = xs.take i ++ xs.drop (i + 1) ++ [z]) :
    Dels base e (.slice (some ⟨g, 0, none⟩) n cap) n i xs w (.returned (.slice (some ⟨g, 0, none⟩) (n - (i + 1 - i)) cap)) ((w.drewN q).setCells g 0 vs) := by
  have hl : vs.length = n := by rw [hvs]; simp; omega
  have hh := heap_setCells (g := g) (e := e) vs 0 (w.drewN q) cur hg (by omega)
  have hcl : cur.toList.length = cur.size := Array.length_toList
  rw [show n - (i + 1 - i) = n - 1 by omega]
  refine ⟨_, rfl, own_of hb hh (by omega) hm (by rw [len_splice _ _ _ (by omega), hcl]; exact hcs) ?_, grown_trans (grown_drewNd w q _) (grown_setCells _ g 0 vs), rfl⟩
  have h2 : xs.eraseIdx i = xs.take i ++ xs.drop (i + 1) := List.eraseIdx_eq_take_drop_succ xs i
  rw [h2, hvs]
  simp only [List.take_zero, List.nil_append, List.append_assoc]
  rw [← List.append_assoc (xs.take i)]
  exact List.take_left' (by simp; omega)
theorem delI_any {base n i : Nat} {v : Value} {ns : List Int} {w : World} (h : w.ownsRow base 3 1 v n (ns.map (Value.int .i64))) (hi : i < n) :
    Calls Try.prog 65 #[v, .int .i64 i, .int .i64 ((i : Int) + 1)] w (Dels base 3 v n i (ns.map (Value.int .i64)) w) := by
  have hxl : ns.length = n := by have := h.1; simp at this; omega
  rcases h.2 with ⟨rfl, rfl⟩ | ⟨g, cap, cur, rfl, hbg, hg, hnc, hcm, hcs, htk⟩
  · omega
  · have := Any.slices_Delete_int_cells Try.deleteI g 0 n cap i (i + 1) ns w (by omega) hnc (by unfold maxLen at hcm; omega) (by omega) (by omega) (fun j hj => by
      rw [Nat.zero_add, h.cellAt j (by omega), List.getElem?_map, List.getElem?_eq_getElem hj]
      simp [hj]) (fun j hj => h.frozenAt _)
    refine this.mono ?_
    rintro e w' ⟨rfl, q, rfl⟩
    refine del_of (z := .int .i64 0) hbg hg hnc hcm (by omega) (by simp; omega) hi _ ?_
    rw [List.take_of_length_le (l := ns) (by omega), show i + 1 - i = 1 by omega]
    simp
theorem cloI_any {base n : Nat} {v : Value} {ns : List Int} {w : World} (h : w.ownsRow base 3 1 v n (ns.map (Value.int .i64))) (hn : n < 1000000) :
    Calls Try.prog 43 #[v] w fun e w' => ∃ v', e = .returned v' ∧ w'.ownsRow w.heap.size 3 1 v' n (ns.map (Value.int .i64)) ∧ Below w.heap.size w w' := by
  have hxl : ns.length = n := by have := h.1; simp at this; omega
  rcases h.2 with ⟨rfl, rfl⟩ | ⟨g, cap, cur, rfl, hbg, hg, hnc, hcm, hcs, htk⟩
  · obtain rfl : ns = [] := List.eq_nil_of_length_eq_zero hxl
    refine (Any.slices_Clone_int_nil Try.cloneI 0 0 w).mono ?_
    rintro e w' ⟨rfl, rfl⟩
    exact ⟨_, rfl, World.ownsRow_nil _ _ _ _, Below.refl _ _⟩
  · refine (Any.slices_Clone_int Try.cloneI g 0 n cap ns w (by omega) (by omega) (fun j hj => by
      rw [Nat.zero_add, h.cellAt j (by omega), List.getElem?_map, List.getElem?_eq_getElem hj]
      simp [hj])).mono ?_
    rintro e w' ⟨v', rfl, ho, _, hb⟩
    rw [List.take_of_length_le (by omega)] at ho
    exact ⟨v', rfl, ho, hb⟩
/-- a place is -1, or that of the first such one -/
theorem idxFrom_cases (x : Int) : ∀ (zs : List Int) (i : Nat), Lib.idxFrom zs x i = -1 ∨ ∃ k : Nat, Lib.idxFrom zs x i = ((i + k : Nat) : Int) ∧ zs[k]? = some x
  | [], i => .inl rfl
  | z :: zs, i => by
    by_cases hz : z = x
    · exact .inr ⟨0, by simp [Lib.idxFrom, hz], by simp [hz]⟩
    · rcases idxFrom_cases x zs (i + 1) with h | ⟨k, h, hk⟩
      · exact .inl (by simp [Lib.idxFrom, hz, h])
      · exact .inr ⟨k + 1, by simp [Lib.idxFrom, hz, h]; omega, by simpa using hk⟩
theorem idx_cases (zs : List Int) (x : Int) : Lib.idxOf zs x = -1 ∨ ∃ k : Nat, Lib.idxOf zs x = (k : Int) ∧ zs[k]? = some x := by
  rcases idxFrom_cases x zs 0 with h | ⟨k, h, hk⟩
  · exact .inl h
  · exact .inr ⟨k, by rw [Nat.zero_add] at h; exact h, hk⟩
end Go.Proofs.Ytfkbjniodomdjaa
