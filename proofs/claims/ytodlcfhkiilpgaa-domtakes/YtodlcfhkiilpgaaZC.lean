/- Rows of one cell an element: one put in, by the library's slices.Insert. A node of a tree turned in its place: its field, its kids. Where a node stands: place, above, within; Kids. Whether a node stands within another one. Rows of numbers: one taken out by the library's slices.Delete, a row of one's own made by slices.Clone; places in lists. A node taken out of its place: Out. The contract of Out. Put, plain: whether it may be, where, and what it leaves. The contract of Kids. -/
import Derived.Test.YtodlcfhkiilpgaaPShelf
import Derived.Test.YtodlcfhkiilpgaaZA
import Derived.Deep.Upon
import Derived.Shelf.SlSortFuncK.RowK2
import Derived.Test.YtodlcfhkiilpgaaZB
import Derived.Test.YtodlcfhkiilpgaaOShelf
import Derived.Deep.RegionLaw
import Derived.BigRegion
namespace Go.Proofs.Ytodlcfhkiilpgaa
open Go.RowKit Go.Shelf Go.Lib

theorem heap_setCells {g : Nat} {e : TypeId} : ∀ (vs : List Value) (o : Nat) (w : World) (cur : Array Value), w.heap[g]? = some (.cells cur e (0, 0)) → o + vs.length ≤ cur.size →
    (w.setCells g o vs).heap[g]? = some (.cells (cur.toList.take o ++ vs ++ cur.toList.drop (o + vs.length)).toArray e (0, 0))
  | [], o, w, cur, h, _ => by simpa [World.setCells] using h
  | v :: vs, o, w, cur, h, hl => by
    have h1 : (w.setCell ⟨g, o, none⟩ v).heap[g]? = some (.cells (cur.setIfInBounds o v) e (0, 0)) := by
      simp [World.setCell, Array.getElem?_modify, h]
    have hl' : o + (vs.length + 1) ≤ cur.size := hl
    have := heap_setCells vs (o + 1) _ _ h1 (by simp; omega)
    show ((w.setCell ⟨g, o, none⟩ v).setCells g (o + 1) vs).heap[g]? = _
    rw [this]
    have e1 : (cur.setIfInBounds o v).toList = cur.toList.set o v := by simp
    rw [e1]
    have e2 : (cur.toList.set o v).take (o + 1) = cur.toList.take o ++ [v] := by
      rw [List.take_add_one, List.getElem?_set_self (by rw [Array.length_toList]; omega), List.take_set_of_le (Nat.le_refl _)]
      rfl
    have e3 : (cur.toList.set o v).drop (o + 1 + vs.length) = cur.toList.drop (o + 1 + vs.length) := List.drop_set_of_lt (by omega)
    rw [e2, e3]
    simp [Nat.add_assoc, Nat.add_comm 1]

theorem len_splice {α : Type} (c vs : List α) (o : Nat) (h : o + vs.length ≤ c.length) : (c.take o ++ vs ++ c.drop (o + vs.length)).length = c.length := by
  simp
  omega
/-- two stores: what stood behind goes one further, and then the one between -/
theorem shift_list {α : Type} (c : List α) (x : α) (i n : Nat) (hi : i ≤ n) (hn : n + 1 ≤ c.length) :
    let xs := c.take n
    let c1 := c.take (i + 1) ++ xs.drop i ++ c.drop (i + 1 + (xs.drop i).length)
    let c2 := c1.take i ++ [x] ++ c1.drop (i + [x].length)
    c1.length = c.length ∧ c2.length = c.length ∧ c2.take (n + 1) = xs.take i ++ x :: xs.drop i := by
  intro xs c1 c2
  have hx : xs.length = n := by simp [xs]; omega
  have h0 : (c.take (i + 1)).length = i + 1 := by simp; omega
  have h1 : c1.length = c.length := by simp only [c1, List.length_append, h0, List.length_drop, hx]; omega
  have h2 : c1.take i = xs.take i := by
    simp only [c1, xs]
    rw [List.append_assoc, List.take_append_of_le_length (by omega), List.take_take, List.take_take]
    congr 1
    omega
  have h3 : c1.drop (i + 1) = xs.drop i ++ c.drop (n + 1) := by
    simp only [c1]
    rw [List.append_assoc, List.drop_left' h0]
    congr 2
    simp [hx]; omega
  have hc2 : c2 = xs.take i ++ [x] ++ (xs.drop i ++ c.drop (n + 1)) := by
    simp only [c2, h2, List.length_cons, List.length_nil, Nat.zero_add, h3]
  refine ⟨h1, ?_, ?_⟩
  · rw [hc2]
    simp [hx]
    omega
  · rw [hc2]
    have : (xs.take i ++ x :: xs.drop i).length = n + 1 := by simp [hx]; omega
    rw [show xs.take i ++ [x] ++ (xs.drop i ++ c.drop (n + 1)) = (xs.take i ++ x :: xs.drop i) ++ c.drop (n + 1) by simp, ← this, List.take_left]

/-- the same in a new row: the beginning, room, and then both stores -/
theorem grow_list {α : Type} (xs Z : List α) (x : α) (i n cap : Nat) (hx : xs.length = n) (hi : i ≤ n) (hz : i + Z.length = cap) (hn : n + 1 ≤ cap) :
    let c := xs.take i ++ Z
    let c1 := c.take i ++ [x] ++ c.drop (i + [x].length)
    let c2 := c1.take (i + 1) ++ xs.drop i ++ c1.drop (i + 1 + (xs.drop i).length)
    c.length = cap ∧ c1.length = cap ∧ c2.length = cap ∧ c2.take (n + 1) = xs.take i ++ x :: xs.drop i := by
  intro c c1 c2
  have h0 : (xs.take i).length = i := by simp; omega
  have hc : c.length = cap := by simp only [c, List.length_append, h0]; omega
  have h1 : c1.length = cap := by simp only [c1, List.length_append, List.length_take, List.length_drop, hc, List.length_cons, List.length_nil]; omega
  have hct : c.take i = xs.take i := by
    simp only [c]
    exact List.take_left' h0
  have h2 : c1.take (i + 1) = xs.take i ++ [x] := by
    have : (xs.take i ++ [x]).length = i + 1 := by simp [h0]
    simp only [c1, hct]
    rw [← this, List.take_left]
  have hc2 : c2 = xs.take i ++ [x] ++ xs.drop i ++ c1.drop (i + 1 + (xs.drop i).length) := by simp only [c2, h2]
  have hl : (xs.take i ++ [x] ++ xs.drop i).length = n + 1 := by simp [hx]; omega
  refine ⟨hc, h1, ?_, ?_⟩
  · rw [hc2, List.length_append, hl]
    simp [h1, hx]
    omega
  · rw [hc2, ← hl, List.take_left]
    simp

/-- a row in memory of one's own, out of its block -/
theorem own_of {w : World} {base g cap n : Nat} {e : TypeId} {cur : List Value} {xs : List Value} (hb : base ≤ g) (hg : w.heap[g]? = some (.cells cur.toArray e (0, 0))) (hn : n ≤ cap) (hm : cap ≤ maxLen) (hs : cur.length = cap) (ht : cur.take n = xs) : w.ownsRow base e 1 (.slice (some ⟨g, 0, none⟩) n cap) n xs :=
  ⟨by rw [← ht]; simp; omega, .inr ⟨g, cap, cur.toArray, rfl, hb, hg, hn, hm, by simp [hs], by simpa using ht⟩⟩
theorem grown_setCells (w : World) (g o : Nat) (vs : List Value) : w.grownBy (w.setCells g o vs) (some g) :=
  ⟨World.os_setCells w g o vs, by
    induction vs generalizing o w with
    | nil => rfl
    | cons v vs ih => exact (ih (w.setCell ⟨g, o, none⟩ v) (o + 1)).trans rfl, World.output_setCells w g o vs, by simp, fun k hk hne => World.heap_setCells_other w g o vs hk (fun e => hne (by rw [e]))⟩
theorem grown_trans {a b c : World} {row : Option Nat} (h1 : a.grownBy b row) (h2 : b.grownBy c row) : a.grownBy c row :=
  ⟨h2.os.trans h1.os, h2.tape.trans h1.tape, h2.output.trans h1.output, Nat.le_trans h1.size h2.size, fun k hk hne => (h2.block k (Nat.lt_of_lt_of_le hk h1.size) hne).trans (h1.block k hk hne)⟩
theorem grown_drew (w : World) (row : Option Nat) : w.grownBy w.drew row := ⟨rfl, rfl, rfl, Nat.le_refl _, fun _ _ _ => rfl⟩
theorem grown_new {w : World} {o : Nat} {ob : Obj} {vs : List Value} {row : Option Nat} : w.grownBy ((w.alloc ob).setCells w.heap.size o vs) row :=
  ⟨World.os_setCells _ _ _ _, (grown_setCells (w.alloc ob) w.heap.size o vs).tape, World.output_setCells _ _ _ _, by simp, fun k hk _ => (World.heap_setCells_other _ _ _ _ (by simp; omega) (by omega)).trans (Below.heap_alloc _ _ _ hk)⟩

section
variable {base n i vb : Nat} {v x : Value} {xs : List Value} {w : World}
/-- what a call gives that puts x into a row at place i -/
def Ins (base : Nat) (e : TypeId) (v : Value) (n i : Nat) (xs : List Value) (x : Value) (w : World) (en : Ending) (w' : World) : Prop :=
  ∃ v', en = .returned v' ∧ w'.ownsRow base e 1 v' (n + 1) (xs.take i ++ x :: xs.drop i) ∧ w.grownBy w' v.ownBlock ∧ (v'.ownBlock = v.ownBlock ∨ v'.ownBlock = some w.heap.size)

set_option maxHeartbeats 1000000 in
theorem insI_any (h : w.ownsRow base 3 1 v n xs) (hb : base ≤ w.heap.size) (h1 : ∀ u ∈ xs, u.oneCell' = true) (hx : x.oneCell' = true) (hi : i ≤ n) (hn : n < 1000000) {tv : TypeId} (hvb : w.heap[vb]? = some (.cells #[x] tv (0, 0))) (hne : v.ownBlock ≠ some vb) :
    Calls Try.prog 42 #[v, .int .i64 i, .slice (some ⟨vb, 0, none⟩) 1 1] w (Ins base 3 v n i xs x w) := by
  have hvs : ∀ j u, [x][j]? = some u → w.cell? ⟨vb, 0 + j, none⟩ = some u := by
    intro j u hj
    match j, hj with
    | 0, hj => simp at hj; subst hj; rw [cell_of_row w vb _ _ _ _ hvb]; rfl
    | j + 1, hj => simp at hj
  have h1v : ∀ u ∈ [x], u.oneCell' = true := by intro u hu; simp at hu; subst hu; exact hx
  rcases h.2 with ⟨rfl, rfl⟩ | ⟨g, cap, cur, rfl, hbg, hg, hnc, hcm, hcs, htk⟩
  · obtain rfl : i = 0 := by omega
    obtain rfl : xs = [] := List.eq_nil_of_length_eq_zero (by have := h.1; omega)
    refine (Any2.slices_Insert_int_end_grow Try.insertI none 0 0 vb 0 1 1 [] [x] w (by omega) (by omega) (by omega) (by omega) rfl rfl (fun _ => rfl) (fun a ha => by cases ha) hvs h1v).mono ?_
    rintro e w' ⟨rfl, rfl⟩
    have hge := grownCap_ge w (0 + 1) 0 3
    have hle := grownCap_le_maxLen w (0 + 1) 0 3 (by unfold maxLen; omega)
    obtain ⟨C, hC⟩ : ∃ C, grownCap w (0 + 1) 0 3 = C := ⟨_, rfl⟩
    rw [hC] at hge hle
    simp only [show Try.insertI_ren.t 3 = 3 from rfl, hC]
    refine ⟨_, rfl, own_of (cur := ([] ++ [x]) ++ (Builtin.zeroCells (.int .i64 0 : Value).cells (C - (0 + 1))).toList) hb ?_ hge hle ?_ rfl, ?_, .inr rfl⟩
    · refine (heap_alloc_new w.drew _).trans ?_
      congr 2
      simp
    · have := size_zeroCells (.int .i64 0 : Value).cells (C - (0 + 1))
      have hzc : (.int .i64 0 : Value).cells.size = 1 := rfl
      rw [hzc] at this
      rw [List.length_append, show (Builtin.zeroCells _ _).toList.length = _ from this]
      simp
      omega
    · exact grown_trans (grown_drew w _) (World.grownBy_alloc _ _ _)
  · have hxl : xs.length = n := by have := h.1; omega
    rw [Nat.mul_one] at htk hcs
    have hcsc : ∀ j u, xs[j]? = some u → w.cell? ⟨g, 0 + j, none⟩ = some u := fun j u hu => by
      have := h.cells (g := g) rfl j u hu
      rwa [Addr.add_lit] at this
    have hfz : ∀ j, w.frozen? ⟨g, j, none⟩ = false := fun j => by simp [World.frozen?, hg]
    have hsp : ∀ j, j < cap → (w.cell? ⟨g, j, none⟩).isSome = true := fun j hj => by
      rw [cell_of_row w g _ _ _ _ hg, Array.getElem?_eq_getElem (by omega)]; rfl
    have hvg : vb ≠ g := fun e => hne (by simp [Value.ownBlock, e])
    have hcu : xs = cur.toList.take n := htk.symm
    by_cases hroom : n + 1 ≤ cap
    · by_cases hin : i = n
      · subst hin
        refine (Any2.slices_Insert_int_end_room Try.insertI g 0 i cap vb 0 1 1 [x] w (by omega) hroom (by unfold maxLen at hcm; omega) rfl (fun j hj => hsp _ (by omega)) (fun j hj => hfz _) hvs h1v).mono ?_
        rintro e w' ⟨rfl, rfl⟩
        have hh := heap_setCells (g := g) (e := 3) [x] (0 + i) w cur hg (by simp; omega)
        refine ⟨_, rfl, own_of hbg hh hroom hcm (by rw [len_splice _ _ _ (by simp; omega), Array.length_toList]; exact hcs) ?_, grown_setCells w g _ _, .inl rfl⟩
        rw [show xs.drop i = [] from List.drop_eq_nil_of_le (by omega), List.take_of_length_le (l := xs) (by omega), hcu, Nat.zero_add]
        exact List.take_left' (by simp; omega)
      · refine (Any2.slices_Insert_int_shift Try.insertI g 0 n cap i vb 0 1 1 xs [x] w (by omega) (by omega) hroom (by unfold maxLen at hcm; omega) hvg hxl rfl hcsc (fun j hj => by rw [Nat.zero_add]; exact hsp _ (by omega)) (fun j hj => hfz _) hvs h1 h1v tv 3 1 cap (by simp [World.shape?, hvb]) (by simp [World.shape?, hg, hcs]) (by omega) (by simp [World.frozen?, hvb]) (by simp [World.frozen?, hvb])).mono ?_
        rintro e w' ⟨rfl, rfl⟩
        obtain ⟨l1, l2, l3⟩ := shift_list cur.toList x i n hi (by rw [Array.length_toList]; omega)
        have hcl : cur.toList.length = cur.size := Array.length_toList
        rw [hcl] at l1 l2
        rw [← hcu] at l1 l2 l3
        have hg1 := heap_setCells (g := g) (e := 3) (xs.drop i) (0 + (i + 1)) w.drew cur hg (by simp; omega)
        simp only [Nat.zero_add] at hg1 ⊢
        have hg2 := heap_setCells (g := g) (e := 3) [x] i _ _ hg1 (by rw [List.size_toArray, l1]; simp; omega)
        refine ⟨_, rfl, own_of hbg hg2 hroom hcm (by rw [← hcs]; exact l2) l3, grown_trans (grown_trans (grown_drew w _) (grown_setCells w.drew g _ _)) (grown_setCells _ g _ _), .inl rfl⟩
    · obtain rfl : n = cap := by omega
      have hge := grownCap_ge w (n + 1) n 3
      have hle := grownCap_le_maxLen w (n + 1) n 3 (by unfold maxLen; omega)
      obtain ⟨C, hC⟩ : ∃ C, grownCap w (n + 1) n 3 = C := ⟨_, rfl⟩
      by_cases hin : i = n
      · subst hin
        refine (Any2.slices_Insert_int_end_grow Try.insertI (some ⟨g, 0, none⟩) i i vb 0 1 1 xs [x] w (by omega) (by omega) (by omega) (by omega) hxl rfl (fun e => by cases e) (fun a ha j u hj => by cases ha; rw [Addr.add_lit]; exact hcsc j u hj) hvs h1v).mono ?_
        rintro e w' ⟨rfl, rfl⟩
        rw [hC] at hge hle
        simp only [show Try.insertI_ren.t 3 = 3 from rfl, hC]
        refine ⟨_, rfl, own_of (cur := (xs ++ [x]) ++ (Builtin.zeroCells (.int .i64 0 : Value).cells (C - (i + 1))).toList) hb ?_ hge hle ?_ ?_, ?_, .inr rfl⟩
        · refine (heap_alloc_new w.drew _).trans ?_
          congr 2
          simp
        · have := size_zeroCells (.int .i64 0 : Value).cells (C - (i + 1))
          have hzc : (.int .i64 0 : Value).cells.size = 1 := rfl
          rw [hzc] at this
          rw [List.length_append, show (Builtin.zeroCells _ _).toList.length = _ from this]
          simp [hxl]
          omega
        · have : (xs ++ [x]).length = i + 1 := by simp [hxl]
          rw [← this, List.take_left, List.drop_eq_nil_of_le (by omega), List.take_of_length_le (by omega)]
        · exact grown_trans (grown_drew w _) (World.grownBy_alloc _ _ _)
      · refine (Any2.slices_Insert_int_grow Try.insertI g 0 n n i vb 0 1 1 xs [x] w (by omega) (by omega) (by omega) (by omega) (by omega) hxl rfl hcsc hvs h1 h1v).mono ?_
        rintro e w' ⟨rfl, rfl⟩
        rw [hC] at hge hle
        simp only [show Try.insertI_ren.t 3 = 3 from rfl, hC]
        have hz1 := size_zeroCells (.int .i64 0 : Value).cells (n + 1 - i)
        have hz2 := size_zeroCells (.int .i64 0 : Value).cells (C - (n + 1))
        have hzc : (.int .i64 0 : Value).cells.size = 1 := rfl
        obtain ⟨l0, l1, l2, l3⟩ := grow_list xs ((Builtin.zeroCells (.int .i64 0 : Value).cells (n + 1 - i)).toList ++ (Builtin.zeroCells (.int .i64 0 : Value).cells (C - (n + 1))).toList) x i n C hxl hi (by rw [hzc] at hz1 hz2; rw [List.length_append, show (Builtin.zeroCells _ (n + 1 - i)).toList.length = _ from hz1, show (Builtin.zeroCells _ (C - (n + 1))).toList.length = _ from hz2]; omega) hge
        obtain ⟨ca, hca⟩ : ∃ ca, (xs.take i).toArray ++ Builtin.zeroCells (.int .i64 0 : Value).cells (n + 1 - i) ++ Builtin.zeroCells (.int .i64 0 : Value).cells (C - (n + 1)) = ca := ⟨_, rfl⟩
        have hcl : ca.toList = xs.take i ++ ((Builtin.zeroCells (.int .i64 0 : Value).cells (n + 1 - i)).toList ++ (Builtin.zeroCells (.int .i64 0 : Value).cells (C - (n + 1))).toList) := by rw [← hca]; simp
        rw [← hcl] at l0 l1 l2 l3
        rw [hca]
        have hcal : ca.toList.length = ca.size := Array.length_toList
        rw [hcal] at l0
        have hg1 := heap_setCells (g := w.heap.size) (e := 3) [x] i (w.alloc (.cells ca 3)).drew ca (heap_alloc_new w _) (by simp; omega)
        have hg2 := heap_setCells (g := w.heap.size) (e := 3) (xs.drop i) (i + 1) ((w.alloc (.cells ca 3)).drew.setCells w.heap.size i [x]).drew _ hg1 (by rw [List.size_toArray, l1]; simp [hxl]; omega)
        refine ⟨_, rfl, own_of hb hg2 hge hle l2 l3, ?_, .inr rfl⟩
        have q1 : w.grownBy ((w.alloc (.cells ca 3)).drew.setCells w.heap.size i [x]).drew none := by
          have : ((w.alloc (.cells ca 3)).drew.setCells w.heap.size i [x]) = ((w.alloc (.cells ca 3)).setCells w.heap.size i [x]).drew := (drew_setCells _ _ _ _).symm
          rw [this]
          exact grown_trans (grown_trans grown_new (grown_drew _ _)) (grown_drew _ _)
        refine ⟨(World.os_setCells _ _ _ _).trans q1.os, ((grown_setCells _ w.heap.size _ _).tape).trans q1.tape, (World.output_setCells _ _ _ _).trans q1.output, by simp, fun k hk hne => (World.heap_setCells_other _ _ _ _ (by simp; omega) (by omega)).trans (q1.block k hk (by simp))⟩
end
end Go.Proofs.Ytodlcfhkiilpgaa
namespace Go.Proofs.Ytodlcfhkiilpgaa
open Go.RowKit Go.Lib

/-- a cell of a row of one's own turned -/
theorem own_turnN {W : World} {b n sz : Nat} {e : TypeId} {v : Value} {xs : List Value} {g : Nat} (h : W.ownsRow b e sz v n xs) (hg : v.ownBlock = some g) (i : Nat) (u : Value) : (W.setCell ⟨g, i, none⟩ u).ownsRow b e sz v n (xs.set i u) := by
  refine ⟨by rw [List.length_set]; exact h.1, ?_⟩
  rcases h.2 with ⟨rfl, _⟩ | ⟨g', cap, cur, rfl, hb, hgg, hn, hm, hcs, htk⟩
  · cases hg
  · simp [Value.ownBlock] at hg
    subst hg
    refine .inr ⟨g', cap, cur.setIfInBounds i u, rfl, hb, by simp [World.setCell, Array.getElem?_modify, hgg], hn, hm, by simpa using hcs, ?_⟩
    rw [Array.toList_setIfInBounds, List.take_set, htk]
theorem cellsN_set : ∀ (ns : List Nd) (i j : Nat) (x x' : Nd) (u : Value), ns[i]? = some x → j < 10 → x'.cs = x.cs.set j u → cellsN (ns.set i x') = (cellsN ns).set (i * 10 + j) u
  | [], i, j, x, x', u, h, _, _ => by simp at h
  | y :: ns, 0, j, x, x', u, h, hj, hc => by
    simp at h
    subst h
    show x'.cs ++ cellsN ns = (y.cs ++ cellsN ns).set (0 * 10 + j) u
    have hl : y.cs.length = 10 := rfl
    rw [hc, Nat.zero_mul, Nat.zero_add, List.set_append_left _ _ (by omega)]
  | y :: ns, i + 1, j, x, x', u, h, hj, hc => by
    show y.cs ++ cellsN (ns.set i x') = (y.cs ++ cellsN ns).set ((i + 1) * 10 + j) u
    have hl : y.cs.length = 10 := rfl
    rw [cellsN_set ns i j x x' u (by simpa using h) hj hc, List.set_append_right _ _ (by omega), hl, show (i + 1) * 10 + j - 10 = i * 10 + j by omega]
section
variable {base D : Nat} {v : Value} {qk : Bool} {ns : List Nd} {W W' : World}
/-- a node turned: its row's cells, its kids; its attributes stay -/
theorem DocM.upd {i : Nat} {x x' : Nd} (h : DocM base D v qk ns W) (hx : ns[i]? = some x) (hf : Frm (fun k => v.ownBlock = some k ∨ x.kv.ownBlock = some k) W W')
    (hrow : W'.ownsRow base 29 10 v ns.length (cellsN (ns.set i x'))) (hk : W'.ownsRow base 3 1 x'.kv x'.kids.length (x'.kids.map (Value.int .i64)))
    (ha : x'.av = x.av) (haa : x'.attrs = x.attrs) (hkb : ∀ k, x'.kv.ownBlock = some k → x.kv.ownBlock = some k ∨ W.heap.size ≤ k) :
    DocM base D v qk (ns.set i x') W' ∧ Frm (DB D v ns) W W' ∧ ∀ k, DB D v (ns.set i x') k → DB D v ns k ∨ W.heap.size ≤ k := by
  have hil := (List.getElem?_eq_some_iff.1 hx).1
  have hg : ∀ (j : Nat) (y : Nd), (ns.set i x')[j]? = some y → (j = i ∧ y = x') ∨ (j ≠ i ∧ ns[j]? = some y) := by
    intro j y hy
    by_cases e : j = i
    · subst e
      rw [List.getElem?_set_self hil] at hy
      exact .inl ⟨rfl, (Option.some.inj hy).symm⟩
    · rw [List.getElem?_set_ne (fun h => e h.symm)] at hy
      exact .inr ⟨e, hy⟩
  have hvk : ∀ (j : Nat) (y : Nd), ns[j]? = some y → ∀ k, y.kv.ownBlock = some k → v.ownBlock ≠ some k := fun j y hy => rows_neN (h.kids j y hy) h.row (by decide)
  have hva : ∀ (j : Nat) (y : Nd), ns[j]? = some y → ∀ k, y.av.ownBlock = some k → v.ownBlock ≠ some k := fun j y hy => rows_neN (h.attrs j y hy) h.row (by decide)
  have hka : ∀ (j : Nat) (y : Nd), ns[j]? = some y → ∀ k, y.av.ownBlock = some k → x.kv.ownBlock ≠ some k := fun j y hy => rows_neN (h.attrs j y hy) (h.kids i x hx) (by decide)
  refine ⟨⟨?_, by rw [List.length_set]; exact hrow, ?_, ?_, ?_, h.ge⟩, hf.mono (fun k e => ?_), ?_⟩
  · exact (hf.block D h.lt (fun e => by
      rcases e with e | e
      · exact h.row_neD e
      · exact Ytodlcfhkiilpgaa.row_neD (h.kids i x hx) h.hd (by decide) e)).trans h.hd
  · intro j y hy
    rcases hg j y hy with ⟨rfl, rfl⟩ | ⟨hne, hy⟩
    · exact hk
    · exact hf.own (h.kids j y hy) (fun k e e2 => by
        rcases e2 with e2 | e2
        · exact hvk j y hy k e e2
        · exact hne (h.apart j i y x k hy hx e e2))
  · intro j y hy
    have key : ∀ (y : Nd), ns[j]? = some y → W'.ownsRow base 54 2 y.av y.attrs.length (cellsA y.attrs) := fun y hy => hf.own (h.attrs j y hy) (fun k e e2 => by
      rcases e2 with e2 | e2
      · exact hva j y hy k e e2
      · exact hka j y hy k e e2)
    rcases hg j y hy with ⟨rfl, rfl⟩ | ⟨_, hy⟩
    · rw [ha, haa]
      exact key x hx
    · exact key y hy
  · intro j1 j2 y1 y2 g h1 h2 e1 e2
    rcases hg j1 y1 h1 with ⟨a1, b1⟩ | ⟨n1, q1⟩
    · rcases hg j2 y2 h2 with ⟨a2, b2⟩ | ⟨n2, q2⟩
      · omega
      · rcases hkb g (b1 ▸ e1) with e | e
        · rw [a1]; exact h.apart i j2 x y2 g hx q2 e e2
        · have := ((h.kids j2 y2 q2).lt g e2).2; omega
    · rcases hg j2 y2 h2 with ⟨a2, b2⟩ | ⟨n2, q2⟩
      · rcases hkb g (b2 ▸ e2) with e | e
        · rw [a2]; exact h.apart j1 i y1 x g q1 hx e1 e
        · have := ((h.kids j1 y1 q1).lt g e1).2; omega
      · exact h.apart j1 j2 y1 y2 g q1 q2 e1 e2
  · rcases e with e | e
    · exact .inr (.inl e)
    · exact .inr (.inr ⟨i, x, hx, .inl e⟩)
  · rintro k (rfl | e | ⟨j, y, hy, e⟩)
    · exact .inl (.inl rfl)
    · exact .inl (.inr (.inl e))
    · rcases hg j y hy with ⟨rfl, rfl⟩ | ⟨_, hy⟩
      · rcases e with e | e
        · rcases hkb k e with e | e
          · exact .inl (.inr (.inr ⟨j, x, hx, .inl e⟩))
          · exact .inr e
        · exact .inl (.inr (.inr ⟨j, x, hx, .inr (by rw [← ha]; exact e)⟩))
      · exact .inl (.inr (.inr ⟨j, y, hy, e⟩))
/-- one field of one node turned, not the kids -/
theorem DocM.fld {i j : Nat} {x x' : Nd} {g c : Nat} {u : Value} (h : DocM base D (.slice (some ⟨g, 0, none⟩) ns.length c) qk ns W) (hx : ns[i]? = some x) (hj : j < 10) (hc : x'.cs = x.cs.set j u) (hk : x'.kv = x.kv) (hkk : x'.kids = x.kids) (ha : x'.av = x.av) (haa : x'.attrs = x.attrs) :
    DocM base D (.slice (some ⟨g, 0, none⟩) ns.length c) qk (ns.set i x') (W.setCell ⟨g, i * 10 + j, none⟩ u) ∧ Frm (DB D (.slice (some ⟨g, 0, none⟩) ns.length c) ns) W (W.setCell ⟨g, i * 10 + j, none⟩ u) ∧ ∀ k, DB D (.slice (some ⟨g, 0, none⟩) ns.length c) (ns.set i x') k → DB D (.slice (some ⟨g, 0, none⟩) ns.length c) ns k ∨ W.heap.size ≤ k := by
  have hf : Frm (fun k => (Value.slice (some ⟨g, 0, none⟩) ns.length c).ownBlock = some k ∨ x.kv.ownBlock = some k) W (W.setCell ⟨g, i * 10 + j, none⟩ u) := Frm.set u (.inl rfl)
  refine h.upd hx hf ?_ ?_ ha haa (fun k e => .inl (hk ▸ e))
  · rw [cellsN_set ns i j x x' u hx hj hc]
    exact own_turnN h.row rfl _ u
  · rw [hk, hkk]
    exact (Frm.set (S := fun k => k = g) u rfl).own (h.kids i x hx) (fun k e e2 => by
      subst e2
      exact rows_neN (h.kids i x hx) h.row (by decide) k e rfl)
end
end Go.Proofs.Ytodlcfhkiilpgaa
namespace Go.Proofs.Ytodlcfhkiilpgaa
open Go.RowKit Go.Shelf Go.Lib

section
variable {base D : Nat} {v : Value} {qk : Bool} {ns : List Nd}
abbrev kdN (ns : List Nd) (n : Int) : List Int := atN ns n Nd.kids []
theorem kids_form (n : Int) {W : World} (h : DocM base D v qk ns W) : ∃ A c, atN ns n Nd.kv (.slice none 0 0) = .slice A (kdN ns n).length c ∧ (kdN ns n).length ≤ c ∧ c ≤ maxLen ∧ (A = none → c = 0) ∧ Rd W .i64 A (kdN ns n) ∧ W.ownsRow base 3 1 (atN ns n Nd.kv (.slice none 0 0)) (kdN ns n).length ((kdN ns n).map (Value.int .i64)) := by
  unfold kdN
  cases hn : inN ns n with
  | false =>
    rw [atN_none hn, atN_none hn]
    exact ⟨none, 0, rfl, Nat.le_refl _, Nat.zero_le _, fun _ => rfl, .inl rfl, World.ownsRow_nil _ _ _ _⟩
  | true =>
    obtain ⟨i, x, rfl, hx⟩ := inN_at hn
    rw [atN_some hx, atN_some hx]
    obtain ⟨A, c, e1, _, h2, h3, h4⟩ := Rd.own (h.kids i x hx)
    have hm : c ≤ maxLen := by
      rcases (h.kids i x hx).2 with ⟨e2, _⟩ | ⟨g, cap, cur, e2, _, _, _, hm, _⟩
      · rw [e1] at e2; injection e2 with _ _ e2; rw [e2]; exact Nat.zero_le _
      · rw [e1] at e2; injection e2 with _ _ e2; rw [e2]; exact hm
    exact ⟨A, c, e1, h2, hm, h3, h4, h.kids i x hx⟩
theorem index_any (n : Int) (A : Option Addr) (cap : Nat) (xs : List Int) (W : World) (hr : Rd W .i64 A xs) (hle : xs.length ≤ cap) (hmx : cap ≤ maxLen) : Calls Try.prog 45 #[.slice A xs.length cap, .int .i64 n] W fun e W' => e = .returned (.int .i64 (Lib.idxOf xs n)) ∧ W' = W := by
  unfold maxLen at hmx
  rcases hr with rfl | ⟨b, off, rfl, hb, hc⟩
  · exact Any.slices_Index_int_empty Try.kindex A cap n W
  · have := Any.slices_Index_int Try.kindex b off xs.length cap xs n W (Nat.le_refl _) (by omega) (fun j hj => by rw [hc j hj]; simp [List.getD])
    rw [List.take_length] at this
    exact this
/-- where one stands among a node's kids, and whether -/
def plcN (ns : List Nd) (up before : Int) : Int := if before = -1 then (kdN ns up).length else Lib.idxOf (kdN ns up) before
def plcB (ns : List Nd) (up before : Int) : Bool := if before = -1 then true else decide (0 ≤ Lib.idxOf (kdN ns up) before)
theorem dplace_any (up before : Int) (W : World) (h : DocM base D v qk ns W) : Calls Try.prog 41 #[.pointer (some ⟨D, 0, none⟩), .int .i64 up, .int .i64 before] W fun e W' => e = .returned (.tuple #[.int .i64 (plcN ns up before), .bool (plcB ns up before)]) ∧ W' = W := by
  have KK := kids_any up W h
  obtain ⟨A, c, e1, hle, hmx, _, hr, _⟩ := kids_form up h
  rw [e1] at KK
  have KI := Lib.hid (index_any before A c (kdN ns up) W hr hle hmx)
  have HK := Lib.hid KK
  unfold plcN plcB
  obtain ⟨K, hK⟩ : ∃ K, kdN ns up = K := ⟨_, rfl⟩
  rw [hK] at HK KI ⊢
  clear h KK e1 hr hle hmx hK
  by_cases hb : before = -1
  · subst hb
    rw [if_pos rfl, if_pos rfl]
    clear KI
    go_enter Try.func41, Try.ntmps41
    go_wp2_with fail
    refine HK.out.mono ?_
    rintro e w1 ⟨rfl, rfl⟩
    go_wp2
    go_ret2
    exact ⟨rfl, rfl⟩
  · rw [if_neg hb, if_neg hb]
    have d0 : (before == -1) = false := by rw [beq_eq_false_iff_ne]; exact hb
    obtain ⟨q, hq⟩ : ∃ q, Lib.idxOf K before = q := ⟨_, rfl⟩
    rw [hq] at KI ⊢
    obtain ⟨bq, hbq⟩ : ∃ b, decide ((0 : Int) ≤ q) = b := ⟨_, rfl⟩
    clear hq hb
    go_enter Try.func41, Try.ntmps41
    go_wp2_with fail
    refine HK.out.mono ?_
    rintro e w1 ⟨rfl, rfl⟩
    go_wp2_with fail
    refine KI.out.mono ?_
    rintro e w2 ⟨rfl, rfl⟩
    go_wp2
    go_ret2
    exact ⟨by subst hbq; rfl, rfl⟩
theorem above_any (n : Int) (W : World) (h : DocM base D v qk ns W) : Calls Try.prog 75 #[.pointer (some ⟨D, 0, none⟩), .int .i64 n] W fun e W' => e = .returned (.int .i64 (aboveN ns n)) ∧ W' = W := by
  have KU := Lib.hid (up_any n W h)
  have KI := Lib.hid (inner_any (wrap64 (n - 1)) W h)
  unfold aboveN
  obtain ⟨u, hu⟩ : ∃ u, atN ns n Nd.up (-1) = u := ⟨_, rfl⟩
  obtain ⟨q, hq⟩ : ∃ q, innN ns (wrap64 (n - 1)) = q := ⟨_, rfl⟩
  rw [hu] at KU ⊢
  rw [hq] at KI ⊢
  clear h hu hq
  by_cases hu : u = -1
  · have e1 : (u != -1) = false := by rw [hu]; rfl
    rw [if_neg (by simpa using hu)]
    by_cases hq : q = n
    · rw [if_pos hq]
      have e2 : (q == n) = true := by rw [hq]; simp
      clear hq hu
      go_enter Try.func75, Try.ntmps75
      go_wp2_with fail
      refine KU.out.mono ?_
      rintro e w1 ⟨rfl, rfl⟩
      go_wp2_with fail
      refine KI.out.mono ?_
      rintro e w2 ⟨rfl, rfl⟩
      go_wp2
      go_ret
      exact ⟨rfl, rfl⟩
    · rw [if_neg hq]
      have e2 : (q == n) = false := by rw [beq_eq_false_iff_ne]; exact hq
      clear hq hu
      go_enter Try.func75, Try.ntmps75
      go_wp2_with fail
      refine KU.out.mono ?_
      rintro e w1 ⟨rfl, rfl⟩
      go_wp2_with fail
      refine KI.out.mono ?_
      rintro e w2 ⟨rfl, rfl⟩
      go_wp2
      go_ret
      exact ⟨rfl, rfl⟩
  · have e1 : (u != -1) = true := by rw [bne_iff_ne]; exact hu
    rw [if_pos hu]
    clear hu
    go_enter Try.func75, Try.ntmps75
    go_wp2_with fail
    refine KU.out.mono ?_
    rintro e w1 ⟨rfl, rfl⟩
    go_wp2
    go_ret
    exact ⟨rfl, rfl⟩
/-- up and up, so often at most -/
def climb (ns : List Nd) (top : Int) : Nat → Int → Int
  | 0, n => n
  | f + 1, n => if aboveN ns n = top ∨ aboveN ns n = -1 then aboveN ns n else climb ns top f (aboveN ns n)
def withN (ns : List Nd) (n top : Int) : Bool := if n = top then true else if (kdN ns top).length = 0 ∧ innN ns top = -1 then false else climb ns top ns.length n == top
end
end Go.Proofs.Ytodlcfhkiilpgaa
namespace Go.Proofs.Ytodlcfhkiilpgaa
open Go.RowKit Go.Shelf Go.Lib

section
variable {base D : Nat} {v : Value} {qk : Bool} {ns : List Nd}
theorem within_any (n top : Int) (W : World) (h : DocM base D v qk ns W) (hl : ns.length ≤ 1000000) : Calls Try.prog 40 #[.pointer (some ⟨D, 0, none⟩), .int .i64 n, .int .i64 top] W fun e W' => e = .returned (.bool (withN ns n top)) ∧ W' = W := by
  unfold withN
  by_cases hnt : n = top
  · rw [if_pos hnt]
    have d0 : (n == top) = true := by rw [hnt]; simp
    clear hnt h
    go_enter Try.func40, Try.ntmps40
    go_wp2
    go_ret
    exact ⟨rfl, rfl⟩
  · rw [if_neg hnt]
    have d0 : (n == top) = false := by rw [beq_eq_false_iff_ne]; exact hnt
    clear hnt
    have KK := kids_any top W h
    obtain ⟨A, c, e1, hle, hmx, _, hr, _⟩ := kids_form top h
    rw [e1] at KK
    have KK := Lib.hid KK
    have KI := Lib.hid (inner_any top W h)
    have KA := Lib.hid (fun m => above_any m W h)
    obtain ⟨c0, _, _⟩ := h.cells
    obtain ⟨Av, cv, hv, _, _, _⟩ := h.sl
    rw [hv] at c0
    obtain ⟨q, hq⟩ : ∃ q, innN ns top = q := ⟨_, rfl⟩
    rw [hq] at KI ⊢
    obtain ⟨L, hL⟩ : ∃ L, (kdN ns top).length = L := ⟨_, rfl⟩
    rw [hL] at KK ⊢
    obtain ⟨Z, hZ⟩ : ∃ Z, climb ns top ns.length n = Z := ⟨_, rfl⟩
    rw [hZ]
    have HZ := Lib.hid hZ
    clear h hr hle hmx hv hq hL e1 hZ
    have tail : ∀ (X : Bool), L ≠ 0 ∨ q ≠ -1 → (if L = 0 ∧ q = -1 then false else X) = X := fun X hx => if_neg (fun e => by omega)
    by_cases hz : L = 0
    · have d1 : ((L : Int) == 0) = true := by rw [hz]; rfl
      have d1' : (L == 0) = true := by rw [hz]; rfl
      by_cases hq : q = -1
      · rw [if_pos ⟨hz, hq⟩]
        have d2 : (q == -1) = true := by rw [hq]; rfl
        clear hz hq
        go_enter Try.func40, Try.ntmps40
        go_wp2_with fail
        refine KK.out.mono ?_
        rintro e w1 ⟨rfl, rfl⟩
        go_wp2_with fail
        refine KI.out.mono ?_
        rintro e w1 ⟨rfl, rfl⟩
        go_wp2
        go_ret
        exact ⟨rfl, rfl⟩
      · rw [tail _ (.inr hq)]
        have d2 : (q == -1) = false := by rw [beq_eq_false_iff_ne]; exact hq
        clear hz hq tail
        go_enter Try.func40, Try.ntmps40
        go_wp2_with fail
        refine KK.out.mono ?_
        rintro e w1 ⟨rfl, rfl⟩
        go_wp2_with fail
        refine KI.out.mono ?_
        rintro e w1 ⟨rfl, rfl⟩
        go_wp2
        go_loopw [1, 26] (fun nv kv wx => ∃ (m : Int) (k : Nat), k ≤ ns.length ∧ nv = .int .i64 m ∧ kv = .int .i64 k ∧ wx = w1 ∧ Hid (climb ns top (ns.length - k) m = Z)) (fun _ kv _ => ns.length - (intOf kv).toNat)
        case atStart => exact ⟨n, 0, Nat.zero_le _, rfl, rfl, rfl, HZ⟩
        case round =>
          obtain ⟨m, k, hk, rfl, rfl, rfl, HC⟩ := hrel
          by_cases hkl : k < ns.length
          · have hsub : ns.length - k = (ns.length - (k + 1)) + 1 := by omega
            have hc := HC.out
            rw [hsub] at hc
            unfold climb at hc
            have HC2 := Lib.hid hc
            obtain ⟨u, hu⟩ : ∃ u, aboveN ns m = u := ⟨_, rfl⟩
            have KAm := Lib.hid (KA.out m)
            rw [hu] at KAm HC2
            clear hc hsub HC hu
            by_cases h1 : u = top
            · have e1 : (u == top) = true := by rw [h1]; simp
              have HF := HC2.out
              rw [if_pos (.inl h1)] at HF
              have HB : Hid ((Z == top) = true) := Lib.hid (by rw [← HF]; exact e1)
              clear h1 HC2 HF
              go_wp2_with fail
              refine KAm.out.mono ?_
              rintro e w2 ⟨rfl, rfl⟩
              go_wp2
              go_ret
              exact ⟨by rw [HB.out]; rfl, rfl⟩
            · have e1 : (u == top) = false := by rw [beq_eq_false_iff_ne]; exact h1
              by_cases h2 : u = -1
              · have e2 : (u == -1) = true := by rw [h2]; rfl
                have HF := HC2.out
                rw [if_pos (.inr h2)] at HF
                have HB : Hid ((Z == top) = false) := Lib.hid (by rw [← HF]; exact e1)
                clear h1 h2 HC2 HF
                go_wp2_with fail
                refine KAm.out.mono ?_
                rintro e w2 ⟨rfl, rfl⟩
                go_wp2
                go_ret
                exact ⟨by rw [HB.out]; rfl, rfl⟩
              · have e2 : (u == -1) = false := by rw [beq_eq_false_iff_ne]; exact h2
                have HF := HC2.out
                rw [if_neg (fun e => by rcases e with e | e; exact h1 e; exact h2 e)] at HF
                have HF := Lib.hid HF
                clear h1 h2 HC2
                go_wp2_with fail
                refine KAm.out.mono ?_
                rintro e w2 ⟨rfl, rfl⟩
                go_wp2
                go_roundw
                case rel => exact ⟨u, k + 1, by omega, rfl, by go_num, by first | rfl | trivial, HF⟩
                case measure => simp [intOf]; omega
          · obtain rfl : k = ns.length := by omega
            have hc := HC.out
            rw [Nat.sub_self] at hc
            have HF : Hid (m = Z) := Lib.hid hc
            clear hc HC hkl
            obtain ⟨bb, hbb⟩ : ∃ bb, (m == top) = bb := ⟨_, rfl⟩
            have HB : Hid ((Z == top) = bb) := Lib.hid (by rw [← HF.out]; exact hbb)
            clear HF
            go_wp2
            go_ret
            exact ⟨by rw [HB.out, ← hbb]; rfl, rfl⟩
    · rw [tail _ (.inl hz)]
      have d1 : ((L : Int) == 0) = false := by rw [beq_eq_false_iff_ne]; omega
      have d1' : (L == 0) = false := by rw [beq_eq_false_iff_ne]; exact hz
      clear hz tail
      go_enter Try.func40, Try.ntmps40
      go_wp2_with fail
      refine KK.out.mono ?_
      rintro e w1 ⟨rfl, rfl⟩
      go_wp2
      go_loopw [1, 26] (fun nv kv wx => ∃ (m : Int) (k : Nat), k ≤ ns.length ∧ nv = .int .i64 m ∧ kv = .int .i64 k ∧ wx = w1 ∧ Hid (climb ns top (ns.length - k) m = Z)) (fun _ kv _ => ns.length - (intOf kv).toNat)
      case atStart => exact ⟨n, 0, Nat.zero_le _, rfl, rfl, rfl, HZ⟩
      case round =>
        obtain ⟨m, k, hk, rfl, rfl, rfl, HC⟩ := hrel
        by_cases hkl : k < ns.length
        · have hsub : ns.length - k = (ns.length - (k + 1)) + 1 := by omega
          have hc := HC.out
          rw [hsub] at hc
          unfold climb at hc
          have HC2 := Lib.hid hc
          obtain ⟨u, hu⟩ : ∃ u, aboveN ns m = u := ⟨_, rfl⟩
          have KAm := Lib.hid (KA.out m)
          rw [hu] at KAm HC2
          clear hc hsub HC hu
          by_cases h1 : u = top
          · have e1 : (u == top) = true := by rw [h1]; simp
            have HF := HC2.out
            rw [if_pos (.inl h1)] at HF
            have HB : Hid ((Z == top) = true) := Lib.hid (by rw [← HF]; exact e1)
            clear h1 HC2 HF
            go_wp2_with fail
            refine KAm.out.mono ?_
            rintro e w2 ⟨rfl, rfl⟩
            go_wp2
            go_ret
            exact ⟨by rw [HB.out]; rfl, rfl⟩
          · have e1 : (u == top) = false := by rw [beq_eq_false_iff_ne]; exact h1
            by_cases h2 : u = -1
            · have e2 : (u == -1) = true := by rw [h2]; rfl
              have HF := HC2.out
              rw [if_pos (.inr h2)] at HF
              have HB : Hid ((Z == top) = false) := Lib.hid (by rw [← HF]; exact e1)
              clear h1 h2 HC2 HF
              go_wp2_with fail
              refine KAm.out.mono ?_
              rintro e w2 ⟨rfl, rfl⟩
              go_wp2
              go_ret
              exact ⟨by rw [HB.out]; rfl, rfl⟩
            · have e2 : (u == -1) = false := by rw [beq_eq_false_iff_ne]; exact h2
              have HF := HC2.out
              rw [if_neg (fun e => by rcases e with e | e; exact h1 e; exact h2 e)] at HF
              have HF := Lib.hid HF
              clear h1 h2 HC2
              go_wp2_with fail
              refine KAm.out.mono ?_
              rintro e w2 ⟨rfl, rfl⟩
              go_wp2
              go_roundw
              case rel => exact ⟨u, k + 1, by omega, rfl, by go_num, by first | rfl | trivial, HF⟩
              case measure => simp [intOf]; omega
        · obtain rfl : k = ns.length := by omega
          have hc := HC.out
          rw [Nat.sub_self] at hc
          have HF : Hid (m = Z) := Lib.hid hc
          clear hc HC hkl
          obtain ⟨bb, hbb⟩ : ∃ bb, (m == top) = bb := ⟨_, rfl⟩
          have HB : Hid ((Z == top) = bb) := Lib.hid (by rw [← HF.out]; exact hbb)
          clear HF
          go_wp2
          go_ret
          exact ⟨by rw [HB.out, ← hbb]; rfl, rfl⟩
end
end Go.Proofs.Ytodlcfhkiilpgaa
namespace Go.Proofs.Ytodlcfhkiilpgaa
open Go.RowKit Go.Shelf Go.Lib

theorem grown_drewNd (w : World) (k : Nat) (row : Option Nat) : w.grownBy (w.drewN k) row := ⟨rfl, rfl, rfl, Nat.le_refl _, fun _ _ _ => rfl⟩
/-- what a call gives that takes the element at place i out of a row -/
def Dels (base : Nat) (e : TypeId) (v : Value) (n i : Nat) (xs : List Value) (w : World) (en : Ending) (w' : World) : Prop :=
  ∃ v', en = .returned v' ∧ w'.ownsRow base e 1 v' (n - 1) (xs.eraseIdx i) ∧ w.grownBy w' v.ownBlock ∧ v'.ownBlock = v.ownBlock
theorem del_of {w : World} {base g cap n i q : Nat} {e : TypeId} {cur : Array Value} {xs : List Value} {z : Value} (hb : base ≤ g) (hg : w.heap[g]? = some (.cells cur e (0, 0))) (hn : n ≤ cap) (hm : cap ≤ maxLen) (hcs : cur.size = cap) (hxl : xs.length = n) (hi : i < n) (vs : List Value) (hvs : vs = xs.take i ++ xs.drop (i + 1) ++ [z]) :
    Dels base e (.slice (some ⟨g, 0, none⟩) n cap) n i xs w (.returned (.slice (some ⟨g, 0, none⟩) (n - (i + 1 - i)) cap)) ((w.drewN q).setCells g 0 vs) := by
  have hl : vs.length = n := by rw [hvs]; simp; omega
  have hh := heap_setCells (g := g) (e := e) vs 0 (w.drewN q) cur hg (by omega)
  have hcl : cur.toList.length = cur.size := Array.length_toList
  rw [show n - (i + 1 - i) = n - 1 by omega]
  refine ⟨_, rfl, own_of hb hh (by omega) hm (by rw [len_splice _ _ _ (by omega), hcl]; exact hcs) ?_, grown_trans (grown_drewNd w q _) (grown_setCells _ g 0 vs), rfl⟩
  have h2 : xs.eraseIdx i = xs.take i ++ xs.drop (i + 1) := List.eraseIdx_eq_take_drop_succ xs i
  rw [h2, hvs]
  simp only [List.take_zero, List.nil_append, List.append_assoc]
  rw [← List.append_assoc (xs.take i)]
  exact List.take_left' (by simp; omega)
theorem delI_any {base n i : Nat} {v : Value} {ns : List Int} {w : World} (h : w.ownsRow base 3 1 v n (ns.map (Value.int .i64))) (hi : i < n) :
    Calls Try.prog 47 #[v, .int .i64 i, .int .i64 ((i : Int) + 1)] w (Dels base 3 v n i (ns.map (Value.int .i64)) w) := by
  have hxl : ns.length = n := by have := h.1; simp at this; omega
  rcases h.2 with ⟨rfl, rfl⟩ | ⟨g, cap, cur, rfl, hbg, hg, hnc, hcm, hcs, htk⟩
  · omega
  · have := Any.slices_Delete_int_cells Try.deleteI g 0 n cap i (i + 1) ns w (by omega) hnc (by unfold maxLen at hcm; omega) (by omega) (by omega) (fun j hj => by
      rw [Nat.zero_add, h.cellAt j (by omega), List.getElem?_map, List.getElem?_eq_getElem hj]
      simp [hj]) (fun j hj => h.frozenAt _)
    refine this.mono ?_
    rintro e w' ⟨rfl, q, rfl⟩
    refine del_of (z := .int .i64 0) hbg hg hnc hcm (by omega) (by simp; omega) hi _ ?_
    rw [List.take_of_length_le (l := ns) (by omega), show i + 1 - i = 1 by omega]
    simp
theorem cloI_any {base n : Nat} {v : Value} {ns : List Int} {w : World} (h : w.ownsRow base 3 1 v n (ns.map (Value.int .i64))) (hn : n < 1000000) :
    Calls Try.prog 56 #[v] w fun e w' => ∃ v', e = .returned v' ∧ w'.ownsRow w.heap.size 3 1 v' n (ns.map (Value.int .i64)) ∧ Below w.heap.size w w' := by
  have hxl : ns.length = n := by have := h.1; simp at this; omega
  rcases h.2 with ⟨rfl, rfl⟩ | ⟨g, cap, cur, rfl, hbg, hg, hnc, hcm, hcs, htk⟩
  · obtain rfl : ns = [] := List.eq_nil_of_length_eq_zero hxl
    refine (Any.slices_Clone_int_nil Try.cloneI 0 0 w).mono ?_
    rintro e w' ⟨rfl, rfl⟩
    exact ⟨_, rfl, World.ownsRow_nil _ _ _ _, Below.refl _ _⟩
  · refine (Any.slices_Clone_int Try.cloneI g 0 n cap ns w (by omega) (by omega) (fun j hj => by
      rw [Nat.zero_add, h.cellAt j (by omega), List.getElem?_map, List.getElem?_eq_getElem hj]
      simp [hj])).mono ?_
    rintro e w' ⟨v', rfl, ho, _, hb⟩
    rw [List.take_of_length_le (by omega)] at ho
    exact ⟨v', rfl, ho, hb⟩
/-- a place is -1, or that of the first such one -/
theorem idxFrom_cases (x : Int) : ∀ (zs : List Int) (i : Nat), Lib.idxFrom zs x i = -1 ∨ ∃ k : Nat, Lib.idxFrom zs x i = ((i + k : Nat) : Int) ∧ zs[k]? = some x
  | [], i => .inl rfl
  | z :: zs, i => by
    by_cases hz : z = x
    · exact .inr ⟨0, by simp [Lib.idxFrom, hz], by simp [hz]⟩
    · rcases idxFrom_cases x zs (i + 1) with h | ⟨k, h, hk⟩
      · exact .inl (by simp [Lib.idxFrom, hz, h])
      · exact .inr ⟨k + 1, by simp [Lib.idxFrom, hz, h]; omega, by simpa using hk⟩
theorem idx_cases (zs : List Int) (x : Int) : Lib.idxOf zs x = -1 ∨ ∃ k : Nat, Lib.idxOf zs x = (k : Int) ∧ zs[k]? = some x := by
  rcases idxFrom_cases x zs 0 with h | ⟨k, h, hk⟩
  · exact .inl h
  · exact .inr ⟨k, by rw [Nat.zero_add] at h; exact h, hk⟩
end Go.Proofs.Ytodlcfhkiilpgaa
namespace Go.Proofs.Ytodlcfhkiilpgaa
open Go.RowKit Go.Shelf Go.Lib

/-- a node's kids, its place, set -/
def setK (ns : List Nd) (i : Nat) (v : Value) (ks : List Int) : List Nd := match ns[i]? with
  | some x => ns.set i { x with kv := v, kids := ks }
  | none => ns
def setU (ns : List Nd) (i : Nat) (u : Int) : List Nd := match ns[i]? with
  | some x => ns.set i { x with up := u }
  | none => ns
theorem setK_some {ns : List Nd} {i : Nat} {x : Nd} (h : ns[i]? = some x) (v : Value) (ks : List Int) : setK ns i v ks = ns.set i { x with kv := v, kids := ks } := by unfold setK; rw [h]
theorem setU_some {ns : List Nd} {i : Nat} {x : Nd} (h : ns[i]? = some x) (u : Int) : setU ns i u = ns.set i { x with up := u } := by unfold setU; rw [h]
/-- where among its node's kids a node stands -/
def outI (ns : List Nd) (n : Int) : Int := Lib.idxOf (kdN ns (atN ns n Nd.up (-1))) n
/-- a node taken out: the kids of the one above it lie at v then -/
def outP (ns : List Nd) (n : Int) (v : Value) : List Nd :=
  if inN ns n then setU (if 0 ≤ outI ns n then setK ns (atN ns n Nd.up (-1)).toNat v ((kdN ns (atN ns n Nd.up (-1))).eraseIdx (outI ns n).toNat) else ns) n.toNat (-1) else ns
/-- what a call leaves that turns a tree, its row of nodes where it was -/
def Trnd (base D : Nat) (v : Value) (qk : Bool) (ns ns' : List Nd) (W W' : World) : Prop :=
  DocM base D v qk ns' W' ∧ Frm (DB D v ns) W W' ∧ ∀ k, DB D v ns' k → DB D v ns k ∨ W.heap.size ≤ k
section
variable {base D : Nat} {v : Value} {qk : Bool} {ns ns' ns'' : List Nd} {W W' W'' : World}
theorem Trnd.refl (h : DocM base D v qk ns W) : Trnd base D v qk ns ns W W := ⟨h, Frm.refl _ _, fun _ h => .inl h⟩
theorem Trnd.trans (h1 : Trnd base D v qk ns ns' W W') (h2 : Trnd base D v qk ns' ns'' W' W'') : Trnd base D v qk ns ns'' W W'' :=
  ⟨h2.1, h1.2.1.trans' h2.2.1 h1.2.2, fun k hk => by
    rcases h2.2.2 k hk with h | h
    · exact h1.2.2 k h
    · exact .inr (Nat.le_trans h1.2.1.size h)⟩
/-- the node's own place is forgotten -/
theorem DocM.up_ {i : Nat} {x : Nd} {g c : Nat} (h : DocM base D (.slice (some ⟨g, 0, none⟩) ns.length c) qk ns W) (hx : ns[i]? = some x) (u : Int) :
    Trnd base D (.slice (some ⟨g, 0, none⟩) ns.length c) qk ns (setU ns i u) W (W.setCell ⟨g, i * 10 + 7, none⟩ (.int .i64 u)) := by
  rw [setU_some hx]
  exact h.fld (j := 7) (x' := { x with up := u }) hx (by omega) rfl rfl rfl rfl rfl
/-- the kids of one laid anew -/
theorem DocM.kids_ {i : Nat} {x : Nd} {g c : Nat} {v' : Value} {ks : List Int} {W2 : World} (h : DocM base D (.slice (some ⟨g, 0, none⟩) ns.length c) qk ns W) (hx : ns[i]? = some x) (hg : W.grownBy W2 x.kv.ownBlock) (ho : W2.ownsRow base 3 1 v' ks.length (ks.map (Value.int .i64)))
    (hkb : ∀ k, v'.ownBlock = some k → x.kv.ownBlock = some k ∨ W.heap.size ≤ k) :
    Trnd base D (.slice (some ⟨g, 0, none⟩) ns.length c) qk ns (setK ns i v' ks) W (W2.setCell ⟨g, i * 10 + 8, none⟩ v') := by
  rw [setK_some hx]
  have hgl : g < W.heap.size := (h.row.lt g rfl).2
  have hf2 : Frm (fun k => x.kv.ownBlock = some k) W W2 := Frm.grown hg (fun k e => e)
  have hvg : v'.ownBlock ≠ some g := fun e => by
    rcases hkb g e with e | e
    · exact rows_neN (h.kids i x hx) h.row (by decide) g e rfl
    · omega
  have hr2 : W2.ownsRow base _ 10 (.slice (some ⟨g, 0, none⟩) ns.length c) ns.length (cellsN ns) := hf2.own h.row (fun k e e2 => rows_neN (h.kids i x hx) h.row (by decide) k e2 e)
  have hfs : Frm (fun k => k = g) W2 (W2.setCell ⟨g, i * 10 + 8, none⟩ v') := Frm.set v' rfl
  refine h.upd (x' := { x with kv := v', kids := ks }) hx ?_ ?_ ?_ rfl rfl hkb
  · exact (hf2.mono (fun k e => .inr e)).trans (hfs.mono (fun k e => .inl (by rw [e]; rfl)))
  · rw [cellsN_set ns i 8 x { x with kv := v', kids := ks } v' hx (by omega) rfl]
    exact own_turnN hr2 rfl _ _
  · exact hfs.own ho (fun k e e2 => hvg (e2 ▸ e))
end
end Go.Proofs.Ytodlcfhkiilpgaa
namespace Go.Proofs.Ytodlcfhkiilpgaa
open Go.RowKit Go.Shelf Go.Lib

theorem setK_len (ns : List Nd) (i : Nat) (v : Value) (ks : List Int) : (setK ns i v ks).length = ns.length := by
  unfold setK
  cases ns[i]? <;> simp
theorem setU_len (ns : List Nd) (i : Nat) (u : Int) : (setU ns i u).length = ns.length := by
  unfold setU
  cases ns[i]? <;> simp
section
variable {base D : Nat} {v : Value} {qk : Bool} {ns : List Nd}
/-- the cells of a node's place and kids, in whatever world a tree lies -/
theorem DocM.node {g c i : Nat} {x : Nd} {W : World} (h : DocM base D (.slice (some ⟨g, 0, none⟩) ns.length c) qk ns W) (hx : ns[i]? = some x) : W.cell? ⟨g, i * 10 + 7, none⟩ = some (.int .i64 x.up) ∧ W.cell? ⟨g, i * 10 + 8, none⟩ = some x.kv ∧ W.frozen? ⟨g, i * 10 + 7, none⟩ = false ∧ W.frozen? ⟨g, i * 10 + 8, none⟩ = false :=
  ⟨h.cell hx (by omega), h.cell hx (by omega), h.row.frozenAt _, h.row.frozenAt _⟩
set_option maxHeartbeats 2000000 in
theorem out_any (n : Int) (W : World) (h : DocM base D v qk ns W) : Calls Try.prog 18 #[.pointer (some ⟨D, 0, none⟩), .int .i64 n] W fun e W' => e = .returned (.tuple #[]) ∧ ∃ v', Trnd base D v qk ns (outP ns n v') W W' := by
  have KH := Lib.hid (has_any n W h)
  cases hn : inN ns n with
  | false =>
    rw [hn] at KH
    have HT : Hid (Trnd base D v qk ns (outP ns n v) W W) := Lib.hid (by unfold outP; rw [hn]; exact Trnd.refl h)
    clear h hn
    go_enter Try.func18, Try.ntmps18
    go_wp2_with fail
    refine KH.out.mono ?_
    rintro e w1 ⟨rfl, rfl⟩
    go_wp2
    refine bodyPost_ret (results_none rfl _ _ _) rfl ?_
    exact ⟨rfl, v, HT.out⟩
  | true =>
    rw [hn] at KH
    obtain ⟨i, x, rfl, hx⟩ := inN_at hn
    have hil := (List.getElem?_eq_some_iff.1 hx).1
    obtain ⟨Av, c, hv, hle, hmx, hgv⟩ := h.sl
    obtain ⟨g, rfl, hbg, hgl⟩ := hgv (by omega)
    subst hv
    obtain ⟨c0, _, _⟩ := h.cells
    obtain ⟨c7, _, f7, _⟩ := h.node hx
    have hup : atN ns (i : Int) Nd.up (-1) = x.up := atN_some hx
    have KK := kids_any x.up W h
    obtain ⟨A, cK, e1, hKle, hKmx, _, hr, ho⟩ := kids_form x.up h
    rw [e1] at KK ho
    have KI := index_any (i : Int) A cK (kdN ns x.up) W hr hKle hKmx
    have hout : ∀ v', outP ns (i : Int) v' = setU (if 0 ≤ Lib.idxOf (kdN ns x.up) (i : Int) then setK ns x.up.toNat v' ((kdN ns x.up).eraseIdx (Lib.idxOf (kdN ns x.up) (i : Int)).toNat) else ns) i (-1) := fun v' => by
      unfold outP outI
      rw [hn, hup, if_pos rfl, Int.toNat_natCast]
    have HOUT := Lib.hid hout
    have hgI : (i : Int) * 10 = ((i * 10 : Nat) : Int) := by omega
    have HKK := Lib.hid KK
    rcases idx_cases (kdN ns x.up) (i : Int) with hi | ⟨k, hi, hk⟩
    · rw [hi] at KI
      have HKI := Lib.hid KI
      have HT := Lib.hid (h.up_ hx (-1))
      have HI := Lib.hid hi
      clear h hn hx hup KK e1 hr ho KI hout hi hgv
      go_enter Try.func18, Try.ntmps18
      go_wp2_with fail
      refine KH.out.mono ?_
      rintro e w1 ⟨rfl, rfl⟩
      go_wp2_with fail
      refine HKK.out.mono ?_
      rintro e w1 ⟨rfl, rfl⟩
      go_wp2_with fail
      refine HKI.out.mono ?_
      rintro e w1 ⟨rfl, rfl⟩
      go_wp2
      go_end0
      refine ⟨rfl, .slice none 0 0, ?_⟩
      rw [HOUT.out, HI.out, if_neg (by decide)]
      exact HT.out
    · rw [hi] at KI
      have HKI := Lib.hid KI
      have HI := Lib.hid hi
      have hup2 : inN ns x.up = true := by
        cases hq : inN ns x.up with
        | true => rfl
        | false => unfold kdN at hk; rw [atN_none hq] at hk; simp at hk
      obtain ⟨p, y, hpu, hy⟩ := inN_at hup2
      have hkd : kdN ns x.up = y.kids := by rw [hpu]; exact atN_some hy
      have hkv : atN ns x.up Nd.kv (.slice none 0 0) = y.kv := by rw [hpu]; exact atN_some hy
      rw [hkv] at e1
      rw [hkd] at e1 ho hk HKK HKI HOUT HI
      rw [hpu] at c7 HKK HOUT
      have hkl := (List.getElem?_eq_some_iff.1 hk).1
      have hpl := (List.getElem?_eq_some_iff.1 hy).1
      obtain ⟨_, c8, _, f8⟩ := h.node hy
      rw [e1] at c8
      have hwr : IntKind.i64.wrap ((k : Int) + 1) = (k : Int) + 1 := by unfold maxLen at hKmx; have h1 : (kdN ns x.up).length = y.kids.length := by rw [hpu]; unfold kdN; rw [atN_some hy]
                                                                        rw [h1] at hKle; rw [IntKind.wrap_i64]; omega
      have KD := delI_any (w := W.drew) (own_keep ho (Below.refl _ W).drew) hkl
      rw [← hwr] at KD
      have HKD := Lib.hid KD
      clear KD hwr
      have H := Lib.hid h
      have HX := Lib.hid hx
      have HY := Lib.hid hy
      have HE1 := Lib.hid e1
      have HUP := Lib.hid hpu
      have hk0 : decide ((0 : Int) ≤ (k : Int)) = true := decide_eq_true (by omega)
      clear h hn hx hup KK e1 hr ho KI hout hi hk hkd hkv hup2 hy hpu hgv
      go_enter Try.func18, Try.ntmps18
      go_wp2_with fail
      refine KH.out.mono ?_
      rintro e w1 ⟨rfl, rfl⟩
      go_wp2_with fail
      refine HKK.out.mono ?_
      rintro e w1 ⟨rfl, rfl⟩
      go_wp2_with fail
      refine HKI.out.mono ?_
      rintro e w1 ⟨rfl, rfl⟩
      go_wp2_with fail
      have FX := Lib.hid (fun (w2 : World) (hg : w1.drew.grownBy w2 (Value.slice A y.kids.length cK).ownBlock) => show w2.cell? ⟨D, 0, none⟩ = some (.slice (some ⟨g, 0, none⟩) ns.length c) ∧ w2.frozen? ⟨g, p * 10 + 8, none⟩ = false ∧ w2.cell? ⟨g, p * 10 + 8, none⟩ = some (.slice A y.kids.length cK) by
        have hk := H.out.kids p y HY.out
        rw [HE1.out] at hk
        have hD : w2.heap[D]? = w1.heap[D]? := hg.block D H.out.lt (fun e => Ytodlcfhkiilpgaa.row_neD hk H.out.hd (by decide) e.symm)
        have hG : w2.heap[g]? = w1.heap[g]? := hg.block g hgl (fun e => rows_neN hk H.out.row (by decide) g e.symm rfl)
        refine ⟨(World.cell?_of_block (a := ⟨D, 0, none⟩) hD).trans c0, ?_, (World.cell?_of_block (a := ⟨g, p * 10 + 8, none⟩) hG).trans c8⟩
        have := f8
        unfold World.frozen? at this ⊢
        rw [hG]
        exact this)
      go_region_law (first | (go_simp; go_at_call 47; refine HKD.out.mono ?_; rintro e w2 ⟨v2, rfl, ho2, hg2, hb2⟩; obtain ⟨A2, c2, hv2⟩ := own_slice ho2; subst hv2; obtain ⟨cD2, cF2, cE2⟩ := FX.out w2 hg2))
      all_goals
        have hmap : (y.kids.map (Value.int .i64)).eraseIdx k = (y.kids.eraseIdx k).map (Value.int .i64) := by simp [List.eraseIdx_eq_take_drop_succ, List.map_take, List.map_drop]
        have hlen : (y.kids.eraseIdx k).length = y.kids.length - 1 := List.length_eraseIdx_of_lt hkl
        have ho3 : w2.ownsRow base 3 1 (.slice A2 (y.kids.length - 1) c2) (y.kids.eraseIdx k).length ((y.kids.eraseIdx k).map (Value.int .i64)) := by rw [hlen, ← hmap]; exact ho2
        have hg1 : w1.grownBy w2 y.kv.ownBlock := by rw [HE1.out]; exact grown_trans (grown_drew w1 _) hg2
        have T1 := H.out.kids_ (v' := .slice A2 (y.kids.length - 1) c2) (ks := y.kids.eraseIdx k) HY.out hg1 ho3 (fun q e => .inl (by rw [HE1.out, ← hb2]; exact e))
        obtain ⟨W3, hW3⟩ : ∃ W3, w2.setCell ⟨g, p * 10 + 8, none⟩ (.slice A2 (y.kids.length - 1) c2) = W3 := ⟨_, rfl⟩
        rw [hW3] at T1
        obtain ⟨ns1, hns1⟩ : ∃ ns1, setK ns p (.slice A2 (y.kids.length - 1) c2) (y.kids.eraseIdx k) = ns1 := ⟨_, rfl⟩
        have hl1 : ns1.length = ns.length := by rw [← hns1]; exact setK_len _ _ _ _
        rw [hns1] at T1
        have h1 := T1.1
        rw [← hl1] at h1
        obtain ⟨x1, hx1⟩ : ∃ x1, ns1[i]? = some x1 := ⟨_, List.getElem?_eq_getElem (by omega)⟩
        obtain ⟨cD3, _, _⟩ := h1.cells
        obtain ⟨_, _, f73, _⟩ := h1.node hx1
        have T2 := h1.up_ hx1 (-1)
        rw [hl1] at T2 cD3
        have T3 := Lib.hid (T1.trans T2)
        have HNS := Lib.hid hns1
        clear T1 T2 h1 hx1 ho2 ho3 hg1 hg2 hb2 hmap hlen cD2 cF2 cE2 HKD FX H c0 c7 c8 f7 f8 KH HKI HKK hns1 hl1
        go_wp2
        go_end0
        refine ⟨rfl, .slice A2 (y.kids.length - 1) c2, ?_⟩
        rw [HOUT.out, HI.out, if_pos (by omega), Int.toNat_natCast, Int.toNat_natCast, HNS.out]
        exact T3.out
end
end Go.Proofs.Ytodlcfhkiilpgaa
namespace Go.Proofs.Ytodlcfhkiilpgaa
open Go.RowKit Go.Shelf Go.Lib

def hldB (ns : List Nd) (up : Int) : Bool := atN ns up Nd.kind 0 == 1 || atN ns up Nd.kind 0 == 2
/-- whether a node may be put: no fault in what is asked -/
def putB (ns : List Nd) (up n before : Int) : Bool := hldB ns up && inN ns n && !(atN ns n Nd.kind 0 == 1) && !(before == n) && !(withN ns up n)
def putE (ns : List Nd) (up n before : Int) : Int := if putB ns up n before then (if plcB ns up before then 0 else 4) else 1
def putP (ns : List Nd) (up n before : Int) (v1 v2 : Value) : List Nd :=
  if putB ns up n before && plcB ns up before then
    setU (setK (outP ns n v1) up.toNat v2 ((kdN (outP ns n v1) up).take (plcN (outP ns n v1) up before).toNat ++ n :: (kdN (outP ns n v1) up).drop (plcN (outP ns n v1) up before).toNat)) n.toNat up
  else ns
theorem hld_in {ns : List Nd} {up : Int} (h : hldB ns up = true) : inN ns up = true := by
  cases hq : inN ns up with
  | true => rfl
  | false => unfold hldB at h; rw [atN_none hq] at h; cases h
theorem outP_len (ns : List Nd) (n : Int) (v : Value) : (outP ns n v).length = ns.length := by
  unfold outP
  split
  · rw [setU_len]
    split
    · rw [setK_len]
    · rfl
  · rfl
theorem inN_len {ns ns' : List Nd} (h : ns'.length = ns.length) (n : Int) : inN ns' n = inN ns n := by
  unfold inN
  rw [h]
theorem setU_get {ns : List Nd} {i : Nat} {u : Int} {j : Nat} {y : Nd} (h : ns[j]? = some y) : ∃ y', (setU ns i u)[j]? = some y' ∧ y'.kids = y.kids ∧ y'.kv = y.kv ∧ (j ≠ i → y' = y) := by
  unfold setU
  cases hx : ns[i]? with
  | none => exact ⟨y, h, rfl, rfl, fun _ => rfl⟩
  | some x =>
    by_cases e : j = i
    · subst e
      rw [hx] at h
      cases h
      exact ⟨_, List.getElem?_set_self (List.getElem?_eq_some_iff.1 hx).1, rfl, rfl, fun h => absurd rfl h⟩
    · exact ⟨y, by rw [List.getElem?_set_ne (fun h => e h.symm)]; exact h, rfl, rfl, fun _ => rfl⟩
theorem setK_get {ns : List Nd} {i : Nat} {v : Value} {ks : List Int} {j : Nat} {y : Nd} (h : ns[j]? = some y) : ∃ y', (setK ns i v ks)[j]? = some y' ∧ y'.kids = (if j = i then ks else y.kids) := by
  unfold setK
  cases hx : ns[i]? with
  | none =>
    have : j ≠ i := fun e => by rw [e, hx] at h; cases h
    exact ⟨y, h, by rw [if_neg this]⟩
  | some x =>
    by_cases e : j = i
    · subst e
      exact ⟨_, List.getElem?_set_self (List.getElem?_eq_some_iff.1 hx).1, by rw [if_pos rfl]⟩
    · exact ⟨y, by rw [List.getElem?_set_ne (fun h => e h.symm)]; exact h, by rw [if_neg e]⟩
/-- a node's kids behind an Out: as they were, or without the one -/
theorem out_kids {ns : List Nd} {n : Int} {v : Value} {p : Nat} {y : Nd} (hy : ns[p]? = some y) : ∃ y', (outP ns n v)[p]? = some y' ∧ (y'.kids = y.kids ∨ ∃ k : Nat, y.kids[k]? = some n ∧ y'.kids = y.kids.eraseIdx k) := by
  unfold outP
  cases hn : inN ns n with
  | false => rw [if_neg (by decide)]; exact ⟨y, hy, .inl rfl⟩
  | true =>
    rw [if_pos rfl]
    by_cases h0 : 0 ≤ outI ns n
    · rw [if_pos h0]
      obtain ⟨y1, hy1, hk1⟩ := setK_get (i := (atN ns n Nd.up (-1)).toNat) (v := v) (ks := (kdN ns (atN ns n Nd.up (-1))).eraseIdx (outI ns n).toNat) hy
      obtain ⟨y2, hy2, hk2, _, _⟩ := setU_get (i := n.toNat) (u := -1) hy1
      refine ⟨y2, hy2, ?_⟩
      rw [hk2, hk1]
      by_cases e : p = (atN ns n Nd.up (-1)).toNat
      · rw [if_pos e]
        rcases idx_cases (kdN ns (atN ns n Nd.up (-1))) n with h | ⟨k, h, hk⟩
        · have : outI ns n = -1 := h
          omega
        · have hu : inN ns (atN ns n Nd.up (-1)) = true := by
            cases hq : inN ns (atN ns n Nd.up (-1)) with
            | true => rfl
            | false => unfold kdN at hk; rw [atN_none hq] at hk; simp at hk
          obtain ⟨q, z, hqu, hz⟩ := inN_at hu
          have hpq : p = q := by rw [e, hqu, Int.toNat_natCast]
          subst hpq
          rw [hy] at hz
          cases hz
          have hkd : kdN ns (atN ns n Nd.up (-1)) = y.kids := by rw [hqu]; exact atN_some hy
          rw [hkd] at hk
          right
          refine ⟨k, hk, ?_⟩
          have : (outI ns n).toNat = k := by unfold outI; rw [h, Int.toNat_natCast]
          rw [this, hkd]
      · rw [if_neg e]
        exact .inl rfl
    · rw [if_neg h0]
      obtain ⟨y2, hy2, hk2, _, _⟩ := setU_get (i := n.toNat) (u := -1) hy
      exact ⟨y2, hy2, .inl hk2⟩
theorem mem_erase {l : List Int} {k : Nat} {n b : Int} (hk : l[k]? = some n) (hb : b ∈ l) (hne : b ≠ n) : b ∈ l.eraseIdx k := by
  obtain ⟨j, hj⟩ := List.mem_iff_getElem?.1 hb
  have hjk : j ≠ k := fun e => by rw [e, hk] at hj; cases hj; exact hne rfl
  rw [List.mem_iff_getElem?]
  rcases Nat.lt_or_ge j k with h | h
  · exact ⟨j, by rw [List.getElem?_eraseIdx_of_lt h]; exact hj⟩
  · refine ⟨j - 1, ?_⟩
    rw [List.getElem?_eraseIdx_of_ge (by omega), Nat.sub_add_cancel (by omega)]
    exact hj
/-- the place, behind an Out -/
theorem plc_out {ns : List Nd} {up n before : Int} {v : Value} (hup : inN ns up = true) (hb : before ≠ n) (hp : plcB ns up before = true) : ∃ k : Nat, plcN (outP ns n v) up before = (k : Int) ∧ k ≤ (kdN (outP ns n v) up).length := by
  obtain ⟨p, y, rfl, hy⟩ := inN_at hup
  obtain ⟨y', hy', hk⟩ := out_kids (n := n) (v := v) hy
  have h1 : kdN (outP ns n v) (p : Int) = y'.kids := atN_some hy'
  have h2 : kdN ns (p : Int) = y.kids := atN_some hy
  unfold plcN
  unfold plcB at hp
  rw [h1]
  rw [h2] at hp
  by_cases h0 : before = -1
  · rw [if_pos h0]
    exact ⟨_, rfl, Nat.le_refl _⟩
  · rw [if_neg h0] at hp ⊢
    have hp := of_decide_eq_true hp
    rw [idxOf_nonneg_iff] at hp
    have hm : before ∈ y.kids := by simpa using hp
    have hm' : before ∈ y'.kids := by
      rcases hk with hk | ⟨k, hk, e⟩
      · rw [hk]; exact hm
      · rw [e]; exact mem_erase hk hm hb
    have hge : (0 : Int) ≤ Lib.idxOf y'.kids before := by rw [idxOf_nonneg_iff]; simpa using hm'
    rcases idx_cases y'.kids before with h | ⟨k, h, hk⟩
    · omega
    · exact ⟨k, h, Nat.le_of_lt (List.getElem?_eq_some_iff.1 hk).1⟩
end Go.Proofs.Ytodlcfhkiilpgaa
namespace Go.Proofs.Ytodlcfhkiilpgaa
open Go.RowKit Go.Shelf Go.Lib
attribute [local go_sem] Oper.semAt_some

section
variable {base D : Nat} {v : Value} {qk : Bool} {ns : List Nd}
set_option maxRecDepth 100000 in
theorem Kids_any (n : Int) (W : World) (h : DocM base D v qk ns W) (hn : (kdN ns n).length < 1000000) : Calls Try.prog 22 #[.pointer (some ⟨D, 0, none⟩), .int .i64 n] W fun e W' => ∃ v', e = .returned v' ∧ W'.ownsRow W.heap.size 3 1 v' (kdN ns n).length ((kdN ns n).map (Value.int .i64)) ∧ Below W.heap.size W W' := by
  have KK := Lib.hid (kids_any n W h)
  obtain ⟨A, c, e1, _, _, _, _, ho⟩ := kids_form n h
  have KC := Lib.hid (cloI_any ho hn)
  rw [e1] at KK KC
  clear h ho e1
  go_enter Try.func22, Try.ntmps22
  go_wp2_with fail
  refine KK.out.mono ?_
  rintro e w1 ⟨rfl, rfl⟩
  go_wp2_with fail
  refine KC.out.mono ?_
  rintro e w2 ⟨v', rfl, ho, hb⟩
  go_wp2
  go_ret
  exact ⟨_, rfl, ho, hb⟩
end
end Go.Proofs.Ytodlcfhkiilpgaa
