/- Table[string, int]: Get, Drop, Clone, Len, Keys. -/
import Derived.Test.YtfkbjniodomdjaaDoorQc
namespace Go.Proofs.YtfkbjniodomdjaaDoor
open Go.RowKit Go.Shelf Go.Lib
attribute [local go_sem] Oper.semAt_some

/-- what a call gives that takes the element at place i out of a row -/
def Dels (base : Nat) (e : TypeId) (v : Value) (n i : Nat) (xs : List Value) (w : World) (en : Ending) (w' : World) : Prop :=
  ∃ v', en = .returned v' ∧ w'.ownsRow base e 1 v' (n - 1) (xs.eraseIdx i) ∧ w.grownBy w' v.ownBlock ∧ v'.ownBlock = v.ownBlock

theorem del_of {w : World} {base g cap n i q : Nat} {e : TypeId} {cur : Array Value} {xs : List Value} {z : Value} (hb : base ≤ g) (hg : w.heap[g]? = some (.cells cur e (0, 0))) (hn : n ≤ cap) (hm : cap ≤ maxLen) (hcs : cur.size = cap) (hxl : xs.length = n) (hi : i < n) (vs : List Value) (hvs : vs = xs.take i ++ xs.drop (i + 1) ++ [z]) :
    Dels base e (.slice (some ⟨g, 0, none⟩) n cap) n i xs w (.returned (.slice (some ⟨g, 0, none⟩) (n - (i + 1 - i)) cap)) ((w.drewN q).setCells g 0 vs) := by
  have hl : vs.length = n := by rw [hvs]; simp; omega
  have hh := heap_setCells (g := g) (e := e) vs 0 (w.drewN q) cur hg (by omega)
  have hcl : cur.toList.length = cur.size := Array.length_toList
  rw [show n - (i + 1 - i) = n - 1 by omega]
  refine ⟨_, rfl, own_of hb hh (by omega) hm (by rw [len_splice _ _ _ (by omega), hcl]; exact hcs) ?_, grown_trans (grown_drewN' w q _) (grown_setCells _ g 0 vs), rfl⟩
  have h2 : xs.eraseIdx i = xs.take i ++ xs.drop (i + 1) := List.eraseIdx_eq_take_drop_succ xs i
  rw [h2, hvs]
  simp only [List.take_zero, List.nil_append, List.append_assoc]
  rw [← List.append_assoc (xs.take i)]
  exact List.take_left' (by simp; omega)
theorem delI_any {base n i : Nat} {v : Value} {ns : List Int} {w : World} (h : w.ownsRow base 3 1 v n (ns.map (Value.int .i64))) (hi : i < n) :
    Calls Tryd.prog 41 #[v, .int .i64 i, .int .i64 ((i : Int) + 1)] w (Dels base 3 v n i (ns.map (Value.int .i64)) w) := by
  have hxl : ns.length = n := by have := h.1; simp at this; omega
  rcases h.2 with ⟨rfl, rfl⟩ | ⟨g, cap, cur, rfl, hbg, hg, hnc, hcm, hcs, htk⟩
  · omega
  · have := Any.slices_Delete_int_cells Tryd.deleteI g 0 n cap i (i + 1) ns w (by omega) hnc (by unfold maxLen at hcm; omega) (by omega) (by omega) (fun j hj => by
      rw [Nat.zero_add, h.cellAt j (by omega), List.getElem?_map, List.getElem?_eq_getElem hj]
      simp [hj]) (fun j hj => h.frozenAt _)
    refine this.mono ?_
    rintro e w' ⟨rfl, q, rfl⟩
    refine del_of (z := .int .i64 0) hbg hg hnc hcm (by omega) (by simp; omega) hi _ ?_
    rw [List.take_of_length_le (l := ns) (by omega), show i + 1 - i = 1 by omega]
    simp
theorem strsOf_list (ns : List ByteArray) : Lib.strsOf (fun j => ns.getD j ⟨#[]⟩) ns.length = ns.map (fun s => s.data.toList) := by
  refine List.ext_getElem? fun j => ?_
  unfold Lib.strsOf
  by_cases h : j < ns.length
  · rw [List.getElem?_map, List.getElem?_range h, List.getElem?_map, List.getElem?_eq_getElem h]
    simp [h]
  · rw [List.getElem?_eq_none (by simp; omega), List.getElem?_eq_none (by simp; omega)]
theorem enc_map (ns : List ByteArray) : (ns.map (fun s => s.data.toList)).map encStr = ns.map Value.string := by
  rw [List.map_map]
  rfl
theorem delS_any {base n i : Nat} {v : Value} {ns : List ByteArray} {w : World} (h : w.ownsRow base 9 1 v n (ns.map Value.string)) (hi : i < n) :
    Calls Tryd.prog 40 #[v, .int .i64 i, .int .i64 ((i : Int) + 1)] w (Dels base 9 v n i (ns.map Value.string) w) := by
  have hxl : ns.length = n := by have := h.1; simp at this; omega
  rcases h.2 with ⟨rfl, rfl⟩ | ⟨g, cap, cur, rfl, hbg, hg, hnc, hcm, hcs, htk⟩
  · omega
  · have := Any.slices_Delete_string_cells Tryd.deleteS g 0 n cap i (i + 1) (fun j => ns.getD j ⟨#[]⟩) w hnc (by unfold maxLen at hcm; omega) (by omega) (by omega) (fun j hj => by
      rw [Nat.zero_add, h.cellAt j (by omega), List.getElem?_map, List.getElem?_eq_getElem (by omega)]
      simp [show j < ns.length by omega]) (fun j hj => h.frozenAt _)
    refine this.mono ?_
    rintro e w' ⟨rfl, q, rfl⟩
    refine del_of (z := .string ⟨#[]⟩) hbg hg hnc hcm (by omega) (by simp; omega) hi _ ?_
    subst hxl
    rw [strsOf_list, show i + 1 - i = 1 by omega, List.map_append, List.map_append, ← List.map_take, ← List.map_drop, List.map_map, List.map_map]
    rw [← List.map_take, ← List.map_drop]
    rfl

theorem cloS_any {base n : Nat} {v : Value} {ns : List ByteArray} {w : World} (h : w.ownsRow base 9 1 v n (ns.map Value.string)) (hn : n < 1000000) :
    Calls Tryd.prog 42 #[v] w fun e w' => ∃ v', e = .returned v' ∧ w'.ownsRow w.heap.size 9 1 v' n (ns.map Value.string) ∧ Below w.heap.size w w' := by
  have hxl : ns.length = n := by have := h.1; simp at this; omega
  rcases h.2 with ⟨rfl, rfl⟩ | ⟨g, cap, cur, rfl, hbg, hg, hnc, hcm, hcs, htk⟩
  · obtain rfl : ns = [] := List.eq_nil_of_length_eq_zero hxl
    refine (Any.slices_Clone_string_nil Tryd.cloneS 0 0 w).mono ?_
    rintro e w' ⟨rfl, rfl⟩
    exact ⟨_, rfl, World.ownsRow_nil _ _ _ _, Below.refl _ _⟩
  · refine (Any.slices_Clone_string Tryd.cloneS g 0 n cap ns w (by omega) (by omega) (fun j hj => by
      rw [Nat.zero_add, h.cellAt j (by omega), List.getElem?_map, List.getElem?_eq_getElem hj]
      simp [hj])).mono ?_
    rintro e w' ⟨v', rfl, ho, _, hb⟩
    rw [List.take_of_length_le (by omega)] at ho
    exact ⟨v', rfl, ho, hb⟩
theorem cloI_any {base n : Nat} {v : Value} {ns : List Int} {w : World} (h : w.ownsRow base 3 1 v n (ns.map (Value.int .i64))) (hn : n < 1000000) :
    Calls Tryd.prog 43 #[v] w fun e w' => ∃ v', e = .returned v' ∧ w'.ownsRow w.heap.size 3 1 v' n (ns.map (Value.int .i64)) ∧ Below w.heap.size w w' := by
  have hxl : ns.length = n := by have := h.1; simp at this; omega
  rcases h.2 with ⟨rfl, rfl⟩ | ⟨g, cap, cur, rfl, hbg, hg, hnc, hcm, hcs, htk⟩
  · obtain rfl : ns = [] := List.eq_nil_of_length_eq_zero hxl
    refine (Any.slices_Clone_int_nil Tryd.cloneI 0 0 w).mono ?_
    rintro e w' ⟨rfl, rfl⟩
    exact ⟨_, rfl, World.ownsRow_nil _ _ _ _, Below.refl _ _⟩
  · refine (Any.slices_Clone_int Tryd.cloneI g 0 n cap ns w (by omega) (by omega) (fun j hj => by
      rw [Nat.zero_add, h.cellAt j (by omega), List.getElem?_map, List.getElem?_eq_getElem hj]
      simp [hj])).mono ?_
    rintro e w' ⟨v', rfl, ho, _, hb⟩
    rw [List.take_of_length_le (by omega)] at ho
    exact ⟨v', rfl, ho, hb⟩

/-- a table of names and numbers -/
abbrev TSI (base T : Nat) (v1 v2 : Value) (ns : List ByteArray) (ts : List Int) (W : World) : Prop := Tab 28 9 3 base T v1 v2 (ns.map Value.string) (ts.map (Value.int .i64)) W
section
variable {base T : Nat} {v1 v2 : Value} {ns : List ByteArray} {ts : List Int}
theorem len_any (W : World) (h : TSI base T v1 v2 ns ts W) : Calls Tryd.prog 13 #[.pointer (some ⟨T, 0, none⟩)] W fun e W' => e = .returned (.int .i64 ns.length) ∧ W' = W := by
  obtain ⟨c0, c1, _, _⟩ := h.cells
  have hr := h.r1
  rw [List.length_map] at hr
  obtain ⟨A, cap, rfl, _, _, _⟩ := own_sl hr
  clear h hr
  go_enter Tryd.func13, Tryd.ntmps13
  go_wp2
  go_ret
  exact ⟨rfl, rfl⟩
theorem keys_any (W : World) (h : TSI base T v1 v2 ns ts W) (hl : ns.length < 1000000) : Calls Tryd.prog 15 #[.pointer (some ⟨T, 0, none⟩)] W fun e W' => ∃ v', e = .returned v' ∧ W'.ownsRow W.heap.size 9 1 v' ns.length (ns.map Value.string) ∧ Below W.heap.size W W' := by
  obtain ⟨c0, c1, _, _⟩ := h.cells
  have hr := h.r1
  rw [List.length_map] at hr
  have KC := Lib.hid (cloS_any hr hl)
  clear h hr
  go_enter Tryd.func15, Tryd.ntmps15
  go_wp2_with fail
  refine KC.out.mono ?_
  rintro e w' ⟨v', rfl, ho, hb⟩
  go_wp2
  go_ret
  exact ⟨v', rfl, ho, hb⟩
theorem get_none (x : ByteArray) (W : World) (h : TSI base T v1 v2 ns ts W) (hs : Srt ltS ns) (hx : x ∉ ns) (hl : ns.length < 1000000) : Calls Tryd.prog 10 #[.pointer (some ⟨T, 0, none⟩), .string x] W fun e W' => e = .returned (.tuple #[.int .i64 0, .bool false]) ∧ ∃ q, W' = W.drewN q := by
  obtain ⟨c0, c1, _, _⟩ := h.cells
  have KS := Lib.hid (srSI_any x W h.r1 hs hl)
  rw [inS_f hx] at KS
  clear h hs hx
  go_enter Tryd.func10, Tryd.ntmps10
  go_wp2_with fail
  refine KS.out.mono ?_
  rintro e w1 ⟨rfl, q, rfl⟩
  go_wp2
  go_ret2
  exact ⟨rfl, q, rfl⟩
theorem get_some (x : ByteArray) (W : World) (h : TSI base T v1 v2 ns ts W) (hs : Srt ltS ns) (hx : x ∈ ns) (hl : ns.length < 1000000) : Calls Tryd.prog 10 #[.pointer (some ⟨T, 0, none⟩), .string x] W fun e W' => e = .returned (.tuple #[.int .i64 (ts[plc ltS ns x]?.getD 0), .bool true]) ∧ Below W.heap.size W W' := by
  obtain ⟨c0, c1, _, _⟩ := h.cells
  have KS := Lib.hid (srSI_any x W h.r1 hs hl)
  rw [inS_t hx] at KS
  have hat : plc ltS ns x < ns.length := (List.getElem?_eq_some_iff.1 (plc_at ordS ns x hs hx)).1
  obtain ⟨at_, hA⟩ : ∃ a, plc ltS ns x = a := ⟨_, rfl⟩
  rw [hA] at KS hat ⊢
  have hr2 := h.r2
  rw [List.length_map] at hr2
  have hyl := h.len
  simp only [List.length_map] at hyl
  obtain ⟨A2, cap2, rfl, hn2, hm2, hg2⟩ := own_sl hr2
  obtain ⟨g, rfl, hbg, hgl⟩ := hg2 (by omega)
  have hcell : W.cell? ⟨g, at_, none⟩ = some (.int .i64 (ts[at_]?.getD 0)) := by
    rw [hr2.cellAt at_ (by omega), List.getElem?_map, List.getElem?_eq_getElem (by omega)]; rfl
  obtain ⟨z, hz⟩ : ∃ z, ts[at_]?.getD 0 = z := ⟨_, rfl⟩
  rw [hz] at hcell ⊢
  unfold maxLen at hm2
  clear h hr2 hs hx hg2 hz hA
  go_enter Tryd.func10, Tryd.ntmps10
  go_wp2_with fail
  refine KS.out.mono ?_
  rintro e w1 ⟨rfl, q, rfl⟩
  go_wp2
  all_goals first | (go_ret2; exact ⟨rfl, below_drewN (Below.refl _ W) _⟩) | skip
end
end Go.Proofs.YtfkbjniodomdjaaDoor
