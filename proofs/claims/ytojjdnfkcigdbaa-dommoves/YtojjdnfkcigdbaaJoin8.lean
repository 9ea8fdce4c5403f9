/- Rows of one cell an element: one put in, by the library's slices.Insert. Rows of numbers: one taken out by the library's slices.Delete, a row of one's own made by slices.Clone; places in lists. -/
import Derived.Test.YtojjdnfkcigdbaaPShelf
import Derived.Test.YtojjdnfkcigdbaaJoin0
import Derived.Deep.Upon
import Derived.Shelf.SlSortFuncK.RowK2
namespace Go.Proofs.Ytojjdnfkcigdbaa
open Go.RowKit Go.Shelf Go.Lib

theorem heap_setCells {g : Nat} {e : TypeId} : ∀ (vs : List Value) (o : Nat) (w : World) (cur : Array Value), w.heap[g]? = some (.cells cur e (0, 0)) → o + vs.length ≤ cur.size →
    (w.setCells g o vs).heap[g]? = some (.cells (cur.toList.take o ++ vs ++ cur.toList.drop (o + vs.length)).toArray e (0, 0))
  | [], o, w, cur, h, _ => by simpa [World.setCells] using h
  | v :: vs, o, w, cur, h, hl => by
    have h1 : (w.setCell ⟨g, o, none⟩ v).heap[g]? = some (.cells (cur.setIfInBounds o v) e (0, 0)) := by
      simp [World.setCell, Array.getElem?_modify, h]
    have hl' : o + (vs.length + 1) ≤ cur.size := hl
    have := heap_setCells vs (o + 1) _ _ h1 (by simp; omega)
    show ((w.setCell ⟨g, o, none⟩ v).setCells g (o + 1) vs).heap[g]? = _
    rw [this]
    have e1 : (cur.setIfInBounds o v).toList = cur.toList.set o v := by simp
    rw [e1]
    have e2 : (cur.toList.set o v).take (o + 1) = cur.toList.take o ++ [v] := by
      rw [List.take_add_one, List.getElem?_set_self (by rw [Array.length_toList]; omega), List.take_set_of_le (Nat.le_refl _)]
      rfl
    have e3 : (cur.toList.set o v).drop (o + 1 + vs.length) = cur.toList.drop (o + 1 + vs.length) := List.drop_set_of_lt (by omega)
    rw [e2, e3]
    simp [Nat.add_assoc, Nat.add_comm 1]

theorem len_splice {α : Type} (c vs : List α) (o : Nat) (h : o + vs.length ≤ c.length) : (c.take o ++ vs ++ c.drop (o + vs.length)).length = c.length := by
  simp
  omega
/-- two stores: what stood behind goes one further, and then the one between -/
theorem shift_list {α : Type} (c : List α) (x : α) (i n : Nat) (hi : i ≤ n) (hn : n + 1 ≤ c.length) :
    let xs := c.take n
    let c1 := c.take (i + 1) ++ xs.drop i ++ c.drop (i + 1 + (xs.drop i).length)
    let c2 := c1.take i ++ [x] ++ c1.drop (i + [x].length)
    c1.length = c.length ∧ c2.length = c.length ∧ c2.take (n + 1) = xs.take i ++ x :: xs.drop i := by
  intro xs c1 c2
  have hx : xs.length = n := by simp [xs]; omega
  have h0 : (c.take (i + 1)).length = i + 1 := by simp; omega
  have h1 : c1.length = c.length := by simp only [c1, List.length_append, h0, List.length_drop, hx]; omega
  have h2 : c1.take i = xs.take i := by
    simp only [c1, xs]
    rw [List.append_assoc, List.take_append_of_le_length (by omega), List.take_take, List.take_take]
    congr 1
    omega
  have h3 : c1.drop (i + 1) = xs.drop i ++ c.drop (n + 1) := by
    simp only [c1]
    rw [List.append_assoc, List.drop_left' h0]
    congr 2
    simp [hx]; omega
  have hc2 : c2 = xs.take i ++ [x] ++ (xs.drop i ++ c.drop (n + 1)) := by
    simp only [c2, h2, List.length_cons, List.length_nil, Nat.zero_add, h3]
  refine ⟨h1, ?_, ?_⟩
  · rw [hc2]
    simp [hx]
    omega
  · rw [hc2]
    have : (xs.take i ++ x :: xs.drop i).length = n + 1 := by simp [hx]; omega
    rw [show xs.take i ++ [x] ++ (xs.drop i ++ c.drop (n + 1)) = (xs.take i ++ x :: xs.drop i) ++ c.drop (n + 1) by simp, ← this, List.take_left]

/-- the same in a new row: the beginning, room, and then both stores -/
theorem grow_list {α : Type} (xs Z : List α) (x : α) (i n cap : Nat) (hx : xs.length = n) (hi : i ≤ n) (hz : i + Z.length = cap) (hn : n + 1 ≤ cap) :
    let c := xs.take i ++ Z
    let c1 := c.take i ++ [x] ++ c.drop (i + [x].length)
    let c2 := c1.take (i + 1) ++ xs.drop i ++ c1.drop (i + 1 + (xs.drop i).length)
    c.length = cap ∧ c1.length = cap ∧ c2.length = cap ∧ c2.take (n + 1) = xs.take i ++ x :: xs.drop i := by
  intro c c1 c2
  have h0 : (xs.take i).length = i := by simp; omega
  have hc : c.length = cap := by simp only [c, List.length_append, h0]; omega
  have h1 : c1.length = cap := by simp only [c1, List.length_append, List.length_take, List.length_drop, hc, List.length_cons, List.length_nil]; omega
  have hct : c.take i = xs.take i := by
    simp only [c]
    exact List.take_left' h0
  have h2 : c1.take (i + 1) = xs.take i ++ [x] := by
    have : (xs.take i ++ [x]).length = i + 1 := by simp [h0]
    simp only [c1, hct]
    rw [← this, List.take_left]
  have hc2 : c2 = xs.take i ++ [x] ++ xs.drop i ++ c1.drop (i + 1 + (xs.drop i).length) := by simp only [c2, h2]
  have hl : (xs.take i ++ [x] ++ xs.drop i).length = n + 1 := by simp [hx]; omega
  refine ⟨hc, h1, ?_, ?_⟩
  · rw [hc2, List.length_append, hl]
    simp [h1, hx]
    omega
  · rw [hc2, ← hl, List.take_left]
    simp

/-- a row in memory of one's own, out of its block -/
theorem own_of {w : World} {base g cap n : Nat} {e : TypeId} {cur : List Value} {xs : List Value} (hb : base ≤ g) (hg : w.heap[g]? = some (.cells cur.toArray e (0, 0))) (hn : n ≤ cap) (hm : cap ≤ maxLen) (hs : cur.length = cap) (ht : cur.take n = xs) : w.ownsRow base e 1 (.slice (some ⟨g, 0, none⟩) n cap) n xs :=
  ⟨by rw [← ht]; simp; omega, .inr ⟨g, cap, cur.toArray, rfl, hb, hg, hn, hm, by simp [hs], by simpa using ht⟩⟩
theorem grown_setCells (w : World) (g o : Nat) (vs : List Value) : w.grownBy (w.setCells g o vs) (some g) :=
  ⟨World.os_setCells w g o vs, by
    induction vs generalizing o w with
    | nil => rfl
    | cons v vs ih => exact (ih (w.setCell ⟨g, o, none⟩ v) (o + 1)).trans rfl, World.output_setCells w g o vs, by simp, fun k hk hne => World.heap_setCells_other w g o vs hk (fun e => hne (by rw [e]))⟩
theorem grown_trans {a b c : World} {row : Option Nat} (h1 : a.grownBy b row) (h2 : b.grownBy c row) : a.grownBy c row :=
  ⟨h2.os.trans h1.os, h2.tape.trans h1.tape, h2.output.trans h1.output, Nat.le_trans h1.size h2.size, fun k hk hne => (h2.block k (Nat.lt_of_lt_of_le hk h1.size) hne).trans (h1.block k hk hne)⟩
theorem grown_drew (w : World) (row : Option Nat) : w.grownBy w.drew row := ⟨rfl, rfl, rfl, Nat.le_refl _, fun _ _ _ => rfl⟩
theorem grown_new {w : World} {o : Nat} {ob : Obj} {vs : List Value} {row : Option Nat} : w.grownBy ((w.alloc ob).setCells w.heap.size o vs) row :=
  ⟨World.os_setCells _ _ _ _, (grown_setCells (w.alloc ob) w.heap.size o vs).tape, World.output_setCells _ _ _ _, by simp, fun k hk _ => (World.heap_setCells_other _ _ _ _ (by simp; omega) (by omega)).trans (Below.heap_alloc _ _ _ hk)⟩

section
variable {base n i vb : Nat} {v x : Value} {xs : List Value} {w : World}
/-- what a call gives that puts x into a row at place i -/
def Ins (base : Nat) (e : TypeId) (v : Value) (n i : Nat) (xs : List Value) (x : Value) (w : World) (en : Ending) (w' : World) : Prop :=
  ∃ v', en = .returned v' ∧ w'.ownsRow base e 1 v' (n + 1) (xs.take i ++ x :: xs.drop i) ∧ w.grownBy w' v.ownBlock ∧ (v'.ownBlock = v.ownBlock ∨ v'.ownBlock = some w.heap.size)

set_option maxHeartbeats 1000000 in
theorem insI_any (h : w.ownsRow base 3 1 v n xs) (hb : base ≤ w.heap.size) (h1 : ∀ u ∈ xs, u.oneCell' = true) (hx : x.oneCell' = true) (hi : i ≤ n) (hn : n < 1000000) {tv : TypeId} (hvb : w.heap[vb]? = some (.cells #[x] tv (0, 0))) (hne : v.ownBlock ≠ some vb) :
    Calls Try.prog 74 #[v, .int .i64 i, .slice (some ⟨vb, 0, none⟩) 1 1] w (Ins base 3 v n i xs x w) := by
  have hvs : ∀ j u, [x][j]? = some u → w.cell? ⟨vb, 0 + j, none⟩ = some u := by
    intro j u hj
    match j, hj with
    | 0, hj => simp at hj; subst hj; rw [cell_of_row w vb _ _ _ _ hvb]; rfl
    | j + 1, hj => simp at hj
  have h1v : ∀ u ∈ [x], u.oneCell' = true := by intro u hu; simp at hu; subst hu; exact hx
  rcases h.2 with ⟨rfl, rfl⟩ | ⟨g, cap, cur, rfl, hbg, hg, hnc, hcm, hcs, htk⟩
  · obtain rfl : i = 0 := by omega
    obtain rfl : xs = [] := List.eq_nil_of_length_eq_zero (by have := h.1; omega)
    refine (Any2.slices_Insert_int_end_grow Try.insertI none 0 0 vb 0 1 1 [] [x] w (by omega) (by omega) (by omega) (by omega) rfl rfl (fun _ => rfl) (fun a ha => by cases ha) hvs h1v).mono ?_
    rintro e w' ⟨rfl, rfl⟩
    have hge := grownCap_ge w (0 + 1) 0 3
    have hle := grownCap_le_maxLen w (0 + 1) 0 3 (by unfold maxLen; omega)
    obtain ⟨C, hC⟩ : ∃ C, grownCap w (0 + 1) 0 3 = C := ⟨_, rfl⟩
    rw [hC] at hge hle
    simp only [show Try.insertI_ren.t 3 = 3 from rfl, hC]
    refine ⟨_, rfl, own_of (cur := ([] ++ [x]) ++ (Builtin.zeroCells (.int .i64 0 : Value).cells (C - (0 + 1))).toList) hb ?_ hge hle ?_ rfl, ?_, .inr rfl⟩
    · refine (heap_alloc_new w.drew _).trans ?_
      congr 2
      simp
    · have := size_zeroCells (.int .i64 0 : Value).cells (C - (0 + 1))
      have hzc : (.int .i64 0 : Value).cells.size = 1 := rfl
      rw [hzc] at this
      rw [List.length_append, show (Builtin.zeroCells _ _).toList.length = _ from this]
      simp
      omega
    · exact grown_trans (grown_drew w _) (World.grownBy_alloc _ _ _)
  · have hxl : xs.length = n := by have := h.1; omega
    rw [Nat.mul_one] at htk hcs
    have hcsc : ∀ j u, xs[j]? = some u → w.cell? ⟨g, 0 + j, none⟩ = some u := fun j u hu => by
      have := h.cells (g := g) rfl j u hu
      rwa [Addr.add_lit] at this
    have hfz : ∀ j, w.frozen? ⟨g, j, none⟩ = false := fun j => by simp [World.frozen?, hg]
    have hsp : ∀ j, j < cap → (w.cell? ⟨g, j, none⟩).isSome = true := fun j hj => by
      rw [cell_of_row w g _ _ _ _ hg, Array.getElem?_eq_getElem (by omega)]; rfl
    have hvg : vb ≠ g := fun e => hne (by simp [Value.ownBlock, e])
    have hcu : xs = cur.toList.take n := htk.symm
    by_cases hroom : n + 1 ≤ cap
    · by_cases hin : i = n
      · subst hin
        refine (Any2.slices_Insert_int_end_room Try.insertI g 0 i cap vb 0 1 1 [x] w (by omega) hroom (by unfold maxLen at hcm; omega) rfl (fun j hj => hsp _ (by omega)) (fun j hj => hfz _) hvs h1v).mono ?_
        rintro e w' ⟨rfl, rfl⟩
        have hh := heap_setCells (g := g) (e := 3) [x] (0 + i) w cur hg (by simp; omega)
        refine ⟨_, rfl, own_of hbg hh hroom hcm (by rw [len_splice _ _ _ (by simp; omega), Array.length_toList]; exact hcs) ?_, grown_setCells w g _ _, .inl rfl⟩
        rw [show xs.drop i = [] from List.drop_eq_nil_of_le (by omega), List.take_of_length_le (l := xs) (by omega), hcu, Nat.zero_add]
        exact List.take_left' (by simp; omega)
      · refine (Any2.slices_Insert_int_shift Try.insertI g 0 n cap i vb 0 1 1 xs [x] w (by omega) (by omega) hroom (by unfold maxLen at hcm; omega) hvg hxl rfl hcsc (fun j hj => by rw [Nat.zero_add]; exact hsp _ (by omega)) (fun j hj => hfz _) hvs h1 h1v tv 3 1 cap (by simp [World.shape?, hvb]) (by simp [World.shape?, hg, hcs]) (by omega) (by simp [World.frozen?, hvb]) (by simp [World.frozen?, hvb])).mono ?_
        rintro e w' ⟨rfl, rfl⟩
        obtain ⟨l1, l2, l3⟩ := shift_list cur.toList x i n hi (by rw [Array.length_toList]; omega)
        have hcl : cur.toList.length = cur.size := Array.length_toList
        rw [hcl] at l1 l2
        rw [← hcu] at l1 l2 l3
        have hg1 := heap_setCells (g := g) (e := 3) (xs.drop i) (0 + (i + 1)) w.drew cur hg (by simp; omega)
        simp only [Nat.zero_add] at hg1 ⊢
        have hg2 := heap_setCells (g := g) (e := 3) [x] i _ _ hg1 (by rw [List.size_toArray, l1]; simp; omega)
        refine ⟨_, rfl, own_of hbg hg2 hroom hcm (by rw [← hcs]; exact l2) l3, grown_trans (grown_trans (grown_drew w _) (grown_setCells w.drew g _ _)) (grown_setCells _ g _ _), .inl rfl⟩
    · obtain rfl : n = cap := by omega
      have hge := grownCap_ge w (n + 1) n 3
      have hle := grownCap_le_maxLen w (n + 1) n 3 (by unfold maxLen; omega)
      obtain ⟨C, hC⟩ : ∃ C, grownCap w (n + 1) n 3 = C := ⟨_, rfl⟩
      by_cases hin : i = n
      · subst hin
        refine (Any2.slices_Insert_int_end_grow Try.insertI (some ⟨g, 0, none⟩) i i vb 0 1 1 xs [x] w (by omega) (by omega) (by omega) (by omega) hxl rfl (fun e => by cases e) (fun a ha j u hj => by cases ha; rw [Addr.add_lit]; exact hcsc j u hj) hvs h1v).mono ?_
        rintro e w' ⟨rfl, rfl⟩
        rw [hC] at hge hle
        simp only [show Try.insertI_ren.t 3 = 3 from rfl, hC]
        refine ⟨_, rfl, own_of (cur := (xs ++ [x]) ++ (Builtin.zeroCells (.int .i64 0 : Value).cells (C - (i + 1))).toList) hb ?_ hge hle ?_ ?_, ?_, .inr rfl⟩
        · refine (heap_alloc_new w.drew _).trans ?_
          congr 2
          simp
        · have := size_zeroCells (.int .i64 0 : Value).cells (C - (i + 1))
          have hzc : (.int .i64 0 : Value).cells.size = 1 := rfl
          rw [hzc] at this
          rw [List.length_append, show (Builtin.zeroCells _ _).toList.length = _ from this]
          simp [hxl]
          omega
        · have : (xs ++ [x]).length = i + 1 := by simp [hxl]
          rw [← this, List.take_left, List.drop_eq_nil_of_le (by omega), List.take_of_length_le (by omega)]
        · exact grown_trans (grown_drew w _) (World.grownBy_alloc _ _ _)
      · refine (Any2.slices_Insert_int_grow Try.insertI g 0 n n i vb 0 1 1 xs [x] w (by omega) (by omega) (by omega) (by omega) (by omega) hxl rfl hcsc hvs h1 h1v).mono ?_
        rintro e w' ⟨rfl, rfl⟩
        rw [hC] at hge hle
        simp only [show Try.insertI_ren.t 3 = 3 from rfl, hC]
        have hz1 := size_zeroCells (.int .i64 0 : Value).cells (n + 1 - i)
        have hz2 := size_zeroCells (.int .i64 0 : Value).cells (C - (n + 1))
        have hzc : (.int .i64 0 : Value).cells.size = 1 := rfl
        obtain ⟨l0, l1, l2, l3⟩ := grow_list xs ((Builtin.zeroCells (.int .i64 0 : Value).cells (n + 1 - i)).toList ++ (Builtin.zeroCells (.int .i64 0 : Value).cells (C - (n + 1))).toList) x i n C hxl hi (by rw [hzc] at hz1 hz2; rw [List.length_append, show (Builtin.zeroCells _ (n + 1 - i)).toList.length = _ from hz1, show (Builtin.zeroCells _ (C - (n + 1))).toList.length = _ from hz2]; omega) hge
        obtain ⟨ca, hca⟩ : ∃ ca, (xs.take i).toArray ++ Builtin.zeroCells (.int .i64 0 : Value).cells (n + 1 - i) ++ Builtin.zeroCells (.int .i64 0 : Value).cells (C - (n + 1)) = ca := ⟨_, rfl⟩
        have hcl : ca.toList = xs.take i ++ ((Builtin.zeroCells (.int .i64 0 : Value).cells (n + 1 - i)).toList ++ (Builtin.zeroCells (.int .i64 0 : Value).cells (C - (n + 1))).toList) := by rw [← hca]; simp
        rw [← hcl] at l0 l1 l2 l3
        rw [hca]
        have hcal : ca.toList.length = ca.size := Array.length_toList
        rw [hcal] at l0
        have hg1 := heap_setCells (g := w.heap.size) (e := 3) [x] i (w.alloc (.cells ca 3)).drew ca (heap_alloc_new w _) (by simp; omega)
        have hg2 := heap_setCells (g := w.heap.size) (e := 3) (xs.drop i) (i + 1) ((w.alloc (.cells ca 3)).drew.setCells w.heap.size i [x]).drew _ hg1 (by rw [List.size_toArray, l1]; simp [hxl]; omega)
        refine ⟨_, rfl, own_of hb hg2 hge hle l2 l3, ?_, .inr rfl⟩
        have q1 : w.grownBy ((w.alloc (.cells ca 3)).drew.setCells w.heap.size i [x]).drew none := by
          have : ((w.alloc (.cells ca 3)).drew.setCells w.heap.size i [x]) = ((w.alloc (.cells ca 3)).setCells w.heap.size i [x]).drew := (drew_setCells _ _ _ _).symm
          rw [this]
          exact grown_trans (grown_trans grown_new (grown_drew _ _)) (grown_drew _ _)
        refine ⟨(World.os_setCells _ _ _ _).trans q1.os, ((grown_setCells _ w.heap.size _ _).tape).trans q1.tape, (World.output_setCells _ _ _ _).trans q1.output, by simp, fun k hk hne => (World.heap_setCells_other _ _ _ _ (by simp; omega) (by omega)).trans (q1.block k hk (by simp))⟩
end
end Go.Proofs.Ytojjdnfkcigdbaa
namespace Go.Proofs.Ytojjdnfkcigdbaa
open Go.RowKit Go.Shelf Go.Lib

theorem grown_drewNd (w : World) (k : Nat) (row : Option Nat) : w.grownBy (w.drewN k) row := ⟨rfl, rfl, rfl, Nat.le_refl _, fun _ _ _ => rfl⟩
/-- what a call gives that takes the element at place i out of a row -/
def Dels (base : Nat) (e : TypeId) (v : Value) (n i : Nat) (xs : List Value) (w : World) (en : Ending) (w' : World) : Prop :=
  ∃ v', en = .returned v' ∧ w'.ownsRow base e 1 v' (n - 1) (xs.eraseIdx i) ∧ w.grownBy w' v.ownBlock ∧ v'.ownBlock = v.ownBlock
theorem del_of {w : World} {base g cap n i q : Nat} {e : TypeId} {cur : Array Value} {xs : List Value} {z : Value} (hb : base ≤ g) (hg : w.heap[g]? = some (.cells cur e (0, 0))) (hn : n ≤ cap) (hm : cap ≤ maxLen) (hcs : cur.size = cap) (hxl : xs.length = n) (hi : i < n) (vs : List Value) (hvs : vs = xs.take i ++ xs.drop (i + 1) ++ [z]) :
    Dels base e (.slice (some ⟨g, 0, none⟩) n cap) n i xs w (.returned (.slice (some ⟨g, 0, none⟩) (n - (i + 1 - i)) cap)) ((w.drewN q).setCells g 0 vs) := by
  have hl : vs.length = n := by rw [hvs]; simp; omega
  have hh := heap_setCells (g := g) (e := e) vs 0 (w.drewN q) cur hg (by omega)
  have hcl : cur.toList.length = cur.size := Array.length_toList
  rw [show n - (i + 1 - i) = n - 1 by omega]
  refine ⟨_, rfl, own_of hb hh (by omega) hm (by rw [len_splice _ _ _ (by omega), hcl]; exact hcs) ?_, grown_trans (grown_drewNd w q _) (grown_setCells _ g 0 vs), rfl⟩
  have h2 : xs.eraseIdx i = xs.take i ++ xs.drop (i + 1) := List.eraseIdx_eq_take_drop_succ xs i
  rw [h2, hvs]
  simp only [List.take_zero, List.nil_append, List.append_assoc]
  rw [← List.append_assoc (xs.take i)]
  exact List.take_left' (by simp; omega)
theorem delI_any {base n i : Nat} {v : Value} {ns : List Int} {w : World} (h : w.ownsRow base 3 1 v n (ns.map (Value.int .i64))) (hi : i < n) :
    Calls Try.prog 79 #[v, .int .i64 i, .int .i64 ((i : Int) + 1)] w (Dels base 3 v n i (ns.map (Value.int .i64)) w) := by
  have hxl : ns.length = n := by have := h.1; simp at this; omega
  rcases h.2 with ⟨rfl, rfl⟩ | ⟨g, cap, cur, rfl, hbg, hg, hnc, hcm, hcs, htk⟩
  · omega
  · have := Any.slices_Delete_int_cells Try.deleteI g 0 n cap i (i + 1) ns w (by omega) hnc (by unfold maxLen at hcm; omega) (by omega) (by omega) (fun j hj => by
      rw [Nat.zero_add, h.cellAt j (by omega), List.getElem?_map, List.getElem?_eq_getElem hj]
      simp [hj]) (fun j hj => h.frozenAt _)
    refine this.mono ?_
    rintro e w' ⟨rfl, q, rfl⟩
    refine del_of (z := .int .i64 0) hbg hg hnc hcm (by omega) (by simp; omega) hi _ ?_
    rw [List.take_of_length_le (l := ns) (by omega), show i + 1 - i = 1 by omega]
    simp
theorem cloI_any {base n : Nat} {v : Value} {ns : List Int} {w : World} (h : w.ownsRow base 3 1 v n (ns.map (Value.int .i64))) (hn : n < 1000000) :
    Calls Try.prog 44 #[v] w fun e w' => ∃ v', e = .returned v' ∧ w'.ownsRow w.heap.size 3 1 v' n (ns.map (Value.int .i64)) ∧ Below w.heap.size w w' := by
  have hxl : ns.length = n := by have := h.1; simp at this; omega
  rcases h.2 with ⟨rfl, rfl⟩ | ⟨g, cap, cur, rfl, hbg, hg, hnc, hcm, hcs, htk⟩
  · obtain rfl : ns = [] := List.eq_nil_of_length_eq_zero hxl
    refine (Any.slices_Clone_int_nil Try.cloneI 0 0 w).mono ?_
    rintro e w' ⟨rfl, rfl⟩
    exact ⟨_, rfl, World.ownsRow_nil _ _ _ _, Below.refl _ _⟩
  · refine (Any.slices_Clone_int Try.cloneI g 0 n cap ns w (by omega) (by omega) (fun j hj => by
      rw [Nat.zero_add, h.cellAt j (by omega), List.getElem?_map, List.getElem?_eq_getElem hj]
      simp [hj])).mono ?_
    rintro e w' ⟨v', rfl, ho, _, hb⟩
    rw [List.take_of_length_le (by omega)] at ho
    exact ⟨v', rfl, ho, hb⟩
/-- a place is -1, or that of the first such one -/
theorem idxFrom_cases (x : Int) : ∀ (zs : List Int) (i : Nat), Lib.idxFrom zs x i = -1 ∨ ∃ k : Nat, Lib.idxFrom zs x i = ((i + k : Nat) : Int) ∧ zs[k]? = some x
  | [], i => .inl rfl
  | z :: zs, i => by
    by_cases hz : z = x
    · exact .inr ⟨0, by simp [Lib.idxFrom, hz], by simp [hz]⟩
    · rcases idxFrom_cases x zs (i + 1) with h | ⟨k, h, hk⟩
      · exact .inl (by simp [Lib.idxFrom, hz, h])
      · exact .inr ⟨k + 1, by simp [Lib.idxFrom, hz, h]; omega, by simpa using hk⟩
theorem idx_cases (zs : List Int) (x : Int) : Lib.idxOf zs x = -1 ∨ ∃ k : Nat, Lib.idxOf zs x = (k : Int) ∧ zs[k]? = some x := by
  rcases idxFrom_cases x zs 0 with h | ⟨k, h, hk⟩
  · exact .inl h
  · exact .inr ⟨k, by rw [Nat.zero_add] at h; exact h, hk⟩
end Go.Proofs.Ytojjdnfkcigdbaa
