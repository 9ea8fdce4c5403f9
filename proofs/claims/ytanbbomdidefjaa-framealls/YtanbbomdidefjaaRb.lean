/- frame.All and frame.Whole. -/
import Derived.Test.YtanbbomdidefjaaRa
import Derived.OwnWalkIn
import Derived.Maps.AppendAt
namespace Go.Proofs.Ytanbbomdidefjaa
open Go.RowKit Go.Shelf
attribute [local go_sem] Oper.semAt_some

theorem infoBs : (Try.prog.info? 24).map (fun i => (i.zero, i.size, i.bytes)) = some (some (.slice none 0 0), 1, 24) := by kernel_rfl
/-- an own row, as a slice -/
theorem own_some {w : World} {base n : Nat} {e : TypeId} {v : Value} {xs : List Value} (h : w.ownsRow base e 1 v n xs) (hv : v ≠ .slice none 0 0) : ∃ g cap, v = .slice (some ⟨g, 0, none⟩) n cap ∧ n ≤ cap ∧ cap ≤ maxLen ∧ base ≤ g ∧ g < w.heap.size := by
  rcases h.2 with ⟨h', _⟩ | ⟨g, cap, cur, rfl, hb, hg, hn, hm, _⟩
  · exact absurd h' hv
  · exact ⟨g, cap, rfl, hn, hm, hb, (Array.getElem?_eq_some_iff.1 hg).1⟩
theorem rd_own' {w : World} {base g n cap : Nat} {e : TypeId} {c : List Int} (h : w.ownsRow base e 1 (.slice (some ⟨g, 0, none⟩) n cap) n (c.map (Value.int .u8))) : Rd w .u8 (some ⟨g, 0, none⟩) c := by
  obtain ⟨A, cap', e1, e2, _, _, hr⟩ := Rd.own h
  injection e1 with e1
  rw [e1]
  exact hr

set_option maxHeartbeats 400000 in
theorem All_any (c : List Int) (b off cap : Nat) (w : World) (hr : Rd w .u8 (some ⟨b, off, none⟩) c) (hl : c.length ≤ 10000000) :
    Calls Try.prog 7 #[.slice (some ⟨b, off, none⟩) c.length cap] w fun e w' => ∃ B0 g cap', e = .returned (.func (.func 24) #[] #[.pointer (some ⟨B0, 0, none⟩)]) ∧ SrcF B0 (some ⟨g, 0, none⟩) cap' c w' ∧ c.length ≤ cap' ∧ cap' ≤ maxLen ∧ w.heap.size ≤ B0 ∧ w.heap.size ≤ g ∧ g < B0 ∧ B0 + 1 = w'.heap.size ∧ Below w.heap.size w w' := by
  have KC := Lib.hid (Any.bytes_Clone_at Try.bclone15 ⟨b, off, none⟩ c.length cap c w rfl (by omega) (fun i hi => by
    have := Rd.add hr i (.int .u8 (c.getD i 0)) (by rw [List.getElem?_map, List.getElem?_eq_getElem hi]; simp [hi])
    exact this))
  go_enter Try.func7, Try.ntmps7
  go_wp2_with fail
  refine KC.out.mono ?_
  rintro e w1 ⟨v, rfl, ho, hv, hb1⟩
  obtain ⟨g, cap', rfl, hn, hm, hbg, hgl⟩ := own_some ho hv
  have KF := Lib.hid (frames_any c (some ⟨g, 0, none⟩) cap' w1)
  go_wp2_with fail
  refine KF.out.mono ?_
  rintro e w2 ⟨rfl, rfl⟩
  go_wp2
  go_ret
  have hs := hb1.size
  exact ⟨w1.heap.size, g, cap', rfl, ⟨heap_alloc_new w1 _, (rd_own' ho).below ((Below.refl _ w1).alloc (Nat.le_refl _) _)⟩, hn, hm, hs, hbg, hgl, by simp, hb1.alloc hs _⟩

/-- where the last one ends -/
def endOf (ys : List (Nat × List Int)) : Nat := (ys.getLast?.map (·.1)).getD 0
theorem endOf_snoc (ys : List (Nat × List Int)) (y : Nat × List Int) : endOf (ys ++ [y]) = y.1 := by simp [endOf]
theorem Chain.last {c : List Int} : ∀ {ys : List (Nat × List Int)} {p : Nat} {k : Int}, Chain c p ys k → ((ys.getLast?.map (·.1)).getD p) ≤ c.length ∧ nextP (c.drop ((ys.getLast?.map (·.1)).getD p)) = .error k ∧ k ≠ 0
  | [], p, k, h => h
  | [y], p, k, h => by
    obtain ⟨sz, _, _, _, _, h5⟩ := h
    exact h5
  | y :: z :: ys, p, k, h => by
    obtain ⟨sz, _, _, _, _, h5⟩ := h
    have := Chain.last h5
    rw [List.getLast?_cons_cons]
    obtain ⟨u, hu⟩ : ∃ u, (z :: ys).getLast? = some u := ⟨_, List.getLast?_eq_some_getLast (by simp)⟩
    rw [hu] at this ⊢
    simpa using this
/-- between two rounds of Whole's loop -/
structure WI (w : World) (pre : List Yd) (W : World) : Prop where
  lst : ∃ lv, W.heap[w.heap.size]? = some (.cells #[lv] 22 (0, 0)) ∧ W.ownsRow (w.heap.size + 3) 24 1 lv pre.length (pre.map (·.2.1))
  en : W.heap[w.heap.size + 1]? = some (.cells #[.int .i64 (endOf (pre.map yf))] 3 (0, 0))
  bw : Below w.heap.size w W
  sz : w.heap.size + 3 ≤ W.heap.size
theorem WI.own (w : World) (B : Nat) (hB : w.heap.size + 3 ≤ B) : OwnFrom B (fun s W => WI w s W) := by
  rintro s W W' row ⟨⟨lv, h1, h2⟩, h3, h4, h5⟩ hg hr
  have l1 := (Array.getElem?_eq_some_iff.1 h1).1
  have l2 := (Array.getElem?_eq_some_iff.1 h3).1
  refine ⟨⟨lv, (hg.block _ l1 (fun e => by have := (hr _ e.symm).1; omega)).trans h1, own_far h2 hg (fun g e1 e2 => ?_)⟩, (hg.block _ l2 (fun e => by have := (hr _ e.symm).1; omega)).trans h3, h4.grown hg h4.size (fun k e => by have := (hr k e).1; omega), Nat.le_trans h5 hg.size⟩
  obtain ⟨o, ho, hc⟩ := (hr g e2).2
  rcases h2.2 with ⟨rfl, _⟩ | ⟨g', cap, cur, rfl, _, hg', _⟩
  · cases e1
  · simp [Value.ownBlock] at e1
    subst e1
    rw [ho] at hg'
    cases hg'
    cases hc
theorem keeps_row {W w1 : World} {base n : Nat} {e : TypeId} {v : Value} {xs : List Value} (h : W.ownsRow base e 1 v n xs) (hg : W.grownBy w1 v.ownBlock) : KeepsOthers W w1 :=
  KeepsOthers.of_grownBy hg (fun j o hj ho => by
    rcases h.2 with ⟨rfl, _⟩ | ⟨g, cap, cur, rfl, _, hg', _⟩
    · cases hj
    · simp [Value.ownBlock] at hj
      subst hj
      rw [hg'] at ho
      cases ho
      rfl)
theorem own_slF {W : World} {b n : Nat} {e : TypeId} {v : Value} {xs : List Value} (h : W.ownsRow b e 1 v n xs) : ∃ A cap, v = .slice A n cap := by
  rcases h.2 with ⟨rfl, rfl⟩ | ⟨g, cap, cur, rfl, _⟩
  · exact ⟨none, 0, rfl⟩
  · exact ⟨_, cap, rfl⟩
/-- one round of Whole's loop -/
theorem WI.next {w W w1 : World} {pre : List Yd} {x : Yd} {lv v' : Value} {o : Obj} {B0 b off cap : Nat} {c : List Int} (hI : WI w pre W) (hlv : W.heap[w.heap.size]? = some (.cells #[lv] 22 (0, 0))) (hrow : W.ownsRow (w.heap.size + 3) 24 1 lv pre.length (pre.map (·.2.1)))
    (ho : w1.ownsRow (w.heap.size + 3) 24 1 v' (pre.length + 1) (pre.map (·.2.1) ++ [x.2.1])) (hg : (W.alloc o).grownBy w1 lv.ownBlock) (hB0 : B0 = w.heap.size + 2) (hb : c = [] ∨ b < w.heap.size) :
    KeepsOthers W ((w1.setCell ⟨w.heap.size, 0, none⟩ v').setCell ⟨w.heap.size + 1, 0, none⟩ (.int .i64 x.1)) ∧
      (SrcF B0 (some ⟨b, off, none⟩) cap c W → SrcF B0 (some ⟨b, off, none⟩) cap c ((w1.setCell ⟨w.heap.size, 0, none⟩ v').setCell ⟨w.heap.size + 1, 0, none⟩ (.int .i64 x.1))) ∧
      WI w (pre ++ [x]) ((w1.setCell ⟨w.heap.size, 0, none⟩ v').setCell ⟨w.heap.size + 1, 0, none⟩ (.int .i64 x.1)) := by
  have hsz := hI.sz
  have hrb : ∀ g, lv.ownBlock = some g → w.heap.size + 3 ≤ g := fun g e => (hrow.lt g e).1
  have key1 : ∀ j, j < w.heap.size + 3 → w1.heap[j]? = W.heap[j]? := fun j hj => (hg.block j (by simp; omega) (fun e => by have := hrb j e.symm; omega)).trans (Below.heap_alloc _ _ _ (by omega))
  have hs1 : W.heap.size ≤ w1.heap.size := by have := hg.size; simp at this; omega
  obtain ⟨W2, hW2⟩ : ∃ W2, (w1.setCell ⟨w.heap.size, 0, none⟩ v').setCell ⟨w.heap.size + 1, 0, none⟩ (.int .i64 x.1) = W2 := ⟨_, rfl⟩
  have hs2 : W2.heap.size = w1.heap.size := by rw [← hW2]; simp
  have key2 : ∀ j, j ≠ w.heap.size → j ≠ w.heap.size + 1 → W2.heap[j]? = w1.heap[j]? := fun j h1 h2 => by
    rw [← hW2, Below.heap_setCell _ ⟨w.heap.size + 1, 0, none⟩ _ j h2, Below.heap_setCell _ ⟨w.heap.size, 0, none⟩ _ j h1]
  have k0 : W2.heap[w.heap.size]? = some (.cells #[v'] 22 (0, 0)) := by
    rw [← hW2, Below.heap_setCell _ ⟨w.heap.size + 1, 0, none⟩ _ _ (by simp)]
    have : w1.heap[w.heap.size]? = some (.cells #[lv] 22 (0, 0)) := (key1 _ (by omega)).trans hlv
    simp [World.setCell, Array.getElem?_modify, this]
  have k1 : W2.heap[w.heap.size + 1]? = some (.cells #[.int .i64 x.1] 3 (0, 0)) := by
    rw [← hW2]
    have h1 : (w1.setCell ⟨w.heap.size, 0, none⟩ v').heap[w.heap.size + 1]? = some (.cells #[.int .i64 (endOf (pre.map yf))] 3 (0, 0)) :=
      (Below.heap_setCell _ ⟨w.heap.size, 0, none⟩ _ _ (by simp)).trans ((key1 _ (by omega)).trans hI.en)
    rw [World.setCell]
    simp [Array.getElem?_modify, h1]
  have kk : KeepsOthers W W2 := by
    rw [← hW2]
    exact (((KeepsOthers.alloc W o).trans (keeps_row (hrow.alloc o) hg)).trans (KeepsOthers.setCell _ _ _)).trans (KeepsOthers.setCell _ _ _)
  rw [hW2]
  refine ⟨kk, fun h => ⟨?_, by
    rcases hb with hb | hb
    · exact .inl hb
    refine h.rd.blocks (by omega) (fun ad had hlt => ?_)
    injection had with had
    subst had
    simp only
    rw [key2 _ (by omega) (by omega), key1 _ (by omega)]⟩, ⟨⟨v', k0, ?_⟩, ?_, ?_, by omega⟩⟩
  · rw [hB0, key2 _ (by omega) (by omega), key1 _ (by omega), ← hB0]
    exact h.box
  · have := own_far (row := none) ho ⟨rfl, rfl, rfl, Nat.le_refl _, fun _ _ _ => rfl⟩ (fun _ _ e => by cases e)
    rw [List.length_append, List.map_append]
    refine ⟨this.1, ?_⟩
    rcases this.2 with hn | ⟨g, cp, cur, e1, e2, e3, e4⟩
    · exact .inl hn
    · exact .inr ⟨g, cp, cur, e1, e2, (key2 _ (by omega) (by omega)).trans e3, e4⟩
  · rw [List.map_append, List.map_cons, List.map_nil, endOf_snoc]
    exact k1
  · refine ⟨?_, ?_, ?_, by have := hI.bw.size; omega, fun j hj => ?_⟩
    · rw [← hW2]; exact hg.os.trans hI.bw.os
    · rw [← hW2]; exact hg.tape.trans hI.bw.tape
    · rw [← hW2]; exact hg.output.trans hI.bw.output
    · rw [key2 _ (by omega) (by omega), key1 _ (by omega)]
      exact hI.bw.block j hj
/-- what Whole answers -/
def WholePost (c : List Int) (ys : List (Nat × List Int)) (k : Int) (w : World) (e : Ending) (w' : World) : Prop :=
  Below w.heap.size w w' ∧ if endOf ys < c.length then e = .returned (.tuple #[.slice none 0 0, .int .i64 k]) else ∃ A cap, e = .returned (.tuple #[.slice A ys.length cap, .int .i64 0])

set_option maxRecDepth 100000 in
set_option maxHeartbeats 2000000 in
theorem Whole_any (c : List Int) (b off cap : Nat) (ys : List (Nat × List Int)) (k : Int) (w : World) (hr : Rd w .u8 (some ⟨b, off, none⟩) c) (h8 : Byte8 c) (hcap : c.length ≤ cap) (hcm : cap ≤ maxLen) (hl : c.length ≤ 1000000) (hch : Chain c 0 ys k) :
    Calls Try.prog 8 #[.slice (some ⟨b, off, none⟩) c.length cap] w (WholePost c ys k w) := by
  refine (callsIn_wide (n := 9)).1 ?_
  refine callsIn_of_wp_marks Try.func8 rfl trivial ?_ rfl
  simp only [Try.ntmps8, List.size_toArray, List.length_cons, List.length_nil, Nat.reduceAdd, Nat.reduceSub, Array.replicate_succ, Array.replicate_zero, List.push_toArray, List.append_toArray, List.nil_append, List.cons_append]
  obtain ⟨i0, hi, hz0, hz1, hz2⟩ := info_parts infoBs
  have HF := Lib.hid (fun w => frames_any c (some ⟨b, off, none⟩) cap w)
  gi_wp2_with (refine ⟨trivial, ?_⟩; gi_at_call 14; refine (callsIn_wide.2 (HF.out _)).mono ?_; rintro e w1 ⟨rfl, rfl⟩)
  obtain ⟨W1, hW1⟩ : ∃ W1, ((w.alloc (.cells #[.slice none 0 0] 22)).alloc (.cells #[.int .i64 0] 3)).alloc (.cells #[.slice (some ⟨b, off, none⟩) c.length cap] 24) = W1 := ⟨_, rfl⟩
  have hs1 : W1.heap.size = w.heap.size + 3 := by rw [← hW1]; simp
  have hB1 : Below w.heap.size w W1 := by rw [← hW1]; exact (((Below.refl _ w).alloc (Nat.le_refl _) _).alloc (by simp) _).alloc (by simp; omega) _
  have c0 : W1.heap[w.heap.size]? = some (.cells #[.slice none 0 0] 22 (0, 0)) := by
    rw [← hW1, Below.heap_alloc _ _ _ (by simp; omega), Below.heap_alloc _ _ _ (by simp)]
    exact heap_alloc_new w _
  have c1 : W1.heap[w.heap.size + 1]? = some (.cells #[.int .i64 0] 3 (0, 0)) := by
    rw [← hW1, Below.heap_alloc _ _ _ (by simp)]
    have := heap_alloc_new (w.alloc (.cells #[.slice none 0 0] 22)) (.cells #[.int .i64 0] 3)
    simpa using this
  have c2 : W1.heap[w.heap.size + 2]? = some (.cells #[.slice (some ⟨b, off, none⟩) c.length cap] 24 (0, 0)) := by
    rw [← hW1]
    have := heap_alloc_new ((w.alloc (.cells #[.slice none 0 0] 22)).alloc (.cells #[.int .i64 0] 3)) (.cells #[.slice (some ⟨b, off, none⟩) c.length cap] 24)
    simpa using this
  rw [hW1]
  have hSrc : SrcF (w.heap.size + 2) (some ⟨b, off, none⟩) cap c W1 := ⟨c2, hr.below hB1⟩
  have hW0 : WI w [] W1 := ⟨⟨_, c0, World.ownsRow_nil _ _ _ _⟩, c1, hB1, by omega⟩
  have hbl : c = [] ∨ b < w.heap.size := by
    by_cases hpos : 0 < c.length
    · obtain ⟨b', off', e, h, _⟩ := hr.pos hpos
      injection e with e
      injection e with e1 e2
      right
      omega
    · left
      exact List.eq_nil_of_length_eq_zero (by omega)
  clear hW1 c0 c1 c2 HF
  have hlast := hch.last
  have hylen := hch.len
  have hdrop := hr
  refine range_R rfl (enters_of Try.func24 (by kernel_rfl) rfl)
    (iterF_stops (w.heap.size + 2) (some ⟨b, off, none⟩) cap c ys k h8 hcap hcm (by omega) hch (fun e => by cases e) (fun ad e => by cases e; rfl) W1 hSrc) yr_kb srcF_kt (fun W l o o' h1 h2 => srcF_kb W l o o' h1 h2) (fun _ => rfl)
    (fun pre W => WI w pre W) (fun _ _ _ => False) (WI.own w _ (by omega)) (fun _ _ _ _ _ hs _ _ => hs) hW0 ?a1 ?assign ?body ?done ?stop
  case assign =>
    intro l x W K hK
    gi_wp2
    exact hK
  case body =>
    rintro l pre ⟨e, v, d⟩ W hI hlt hx
    obtain ⟨lv, hlv, hrow⟩ := hI.lst
    have cl : W.cell? ⟨w.heap.size, 0, none⟩ = some lv := by rw [cell_of_row _ _ _ _ _ _ hlv]; rfl
    have HX := Lib.hid hx
    have hvs : ∃ Av nv cv, v = .slice Av nv cv := by
      rcases hx.row.2 with ⟨h, _⟩ | ⟨g, cp, cur, h, _⟩
      · exact ⟨_, _, _, h⟩
      · exact ⟨_, _, _, h⟩
    obtain ⟨Av, nv, cv, rfl⟩ := hvs
    have HI := Lib.hid hI
    have HBL := Lib.hid hbl
    have HRW := Lib.hid hrow
    have HLV := Lib.hid hlv
    have hsz : w.heap.size + 3 ≤ W.heap.size := hI.sz
    simp only
    clear hx hI hrow hlv hlast hdrop hbl
    have fin : ∀ (v' : Value) (w1 : World), w1.ownsRow (w.heap.size + 3) 24 1 v' (pre.length + 1) (pre.map (·.2.1) ++ [.slice Av nv cv]) → (W.alloc (.cells #[.slice Av nv cv] 24)).grownBy w1 lv.ownBlock →
        (∃ A' cp', v' = .slice A' (pre.length + 1) cp') ∧ w1.cell? ⟨w.heap.size, 0, none⟩ = some lv ∧ w1.cell? ⟨w.heap.size + 1, 0, none⟩ = some (.int .i64 (endOf (pre.map yf))) ∧ w1.frozen? ⟨w.heap.size, 0, none⟩ = false ∧ w1.frozen? ⟨w.heap.size + 1, 0, none⟩ = false := by
      intro v' w1 ho hg
      have key : ∀ j, j < w.heap.size + 3 → w1.heap[j]? = W.heap[j]? := fun j hj => (hg.block j (by simp; omega) (fun e => by have := (HRW.out.lt j e.symm).1; omega)).trans (Below.heap_alloc _ _ _ (by omega))
      have hb0 := (key w.heap.size (by omega)).trans HLV.out
      have hb1 := (key (w.heap.size + 1) (by omega)).trans HI.out.en
      refine ⟨own_slF ho, ?_, ?_, ?_, ?_⟩
      · rw [cell_of_row _ _ _ _ _ _ hb0]; rfl
      · rw [cell_of_row _ _ _ _ _ _ hb1]; rfl
      · simp [World.frozen?, hb0]
      · simp [World.frozen?, hb1]
    have HFIN := Lib.hid fin
    clear fin
    gi_wp2_with (gi_at_builtin; refine wpListIn_append_own _ rfl _ _ 22 rfl (w.heap.size + 3) 24 i0 (.slice none 0 0) 1 24 Try.underlying22 hi hz0 hz1 hz2 rfl (by decide) _ _ _ rfl (HRW.out.alloc _) ⟨W.heap.size, 0, none⟩ 1 1 _ rfl rfl (cell_one_new _ _ _) (by simp [Value.oneCell']) (by unfold maxLen; omega) (by omega) (by simp; omega) ?_; intro v' w1 hown' hgrow hnn; clear hnn; obtain ⟨⟨A', cp', hv'⟩, q0, q1, q2, q3⟩ := HFIN.out v' w1 hown' hgrow; subst hv'; have HO := Lib.hid hown'; have HG := Lib.hid (show (W.alloc (.cells #[.slice Av nv cv] 24)).grownBy w1 lv.ownBlock from hgrow); clear hown' hgrow)
    exact HI.out.next HLV.out HRW.out (x := (e, .slice Av nv cv, d)) HO.out HG.out rfl HBL.out
  case stop =>
    rintro D c pre W _ _ h
    exact h.elim
  case done =>
    rintro D xs W hD hxs hI hK
    obtain ⟨lv, hlv, hrow⟩ := hI.lst
    have hxl : xs.length = ys.length := by rw [← hxs]; simp
    have hen := hI.en
    rw [hxs] at hen
    rw [hxl] at hrow
    obtain ⟨A', cp', rfl⟩ := own_slF hrow
    have cl : W.cell? ⟨w.heap.size, 0, none⟩ = some (.slice A' ys.length cp') := by rw [cell_of_row _ _ _ _ _ _ hlv]; rfl
    have ce : W.cell? ⟨w.heap.size + 1, 0, none⟩ = some (.int .i64 (endOf ys)) := by rw [cell_of_row _ _ _ _ _ _ hen]; rfl
    obtain ⟨E, hE⟩ : ∃ E, endOf ys = E := ⟨_, rfl⟩
    have hlast' : E ≤ c.length ∧ nextP (c.drop E) = .error k ∧ k ≠ 0 := by rw [← hE]; exact hlast
    rw [hE] at ce
    have HI := Lib.hid hI
    have HE := Lib.hid hE
    have hDw : w.heap.size ≤ D := by omega
    unfold maxLen at hcm
    clear hlast hen hlv hrow hI hxs hE
    by_cases hlt : E < c.length
    · have hd1 : decide (((E : Nat) : Int) < (c.length : Int)) = true := decide_eq_true (by omega)
      have hd2 : decide (E < c.length) = true := decide_eq_true hlt
      have hdl : (c.drop E).length = c.length - E := by simp
      have hne : ¬ cap = E := by omega
      have fin := Next_err (c.drop E) (some ⟨b, off + E, none⟩) (cap - E) k W (rd_drop (hr.below HI.out.bw) b off E rfl) (h8.drop E) (by omega) (by unfold maxLen; omega) (by omega) hlast'.2.1
      rw [hdl] at fin
      have HF := Lib.hid fin
      clear fin hlast' hdl
      gi_wp2_with (refine ⟨trivial, ?_⟩; gi_at_call 16; refine (callsIn_wide.2 HF.out).mono ?_; rintro e w2 ⟨rfl, hb2⟩)
      have hK2 : w2.heap[D]? = some (.deferred (some [])) := (hb2.block D (Array.getElem?_eq_some_iff.1 hK).1).trans hK
      have hBf : Below w.heap.size w w2 := thn HI.out.bw hb2
      refine ⟨by simp, .inl ⟨_, _, rfl, run_takeDeferred hK2, ?_⟩⟩
      refine ⟨_, results_tmp2 rfl _ _ _, hBf.grown (grownBy_putObj' w2 D _) hBf.size (fun r e => by cases e; omega), ?_⟩
      rw [HE.out, if_pos hlt]
      rfl
    · have hd1 : decide (((E : Nat) : Int) < (c.length : Int)) = false := decide_eq_false (by omega)
      have hd2 : decide (E < c.length) = false := decide_eq_false hlt
      clear hlast'
      gi_wp2
      have hBf := HI.out.bw
      refine ⟨by simp, .inl ⟨_, _, rfl, run_takeDeferred hK, ?_⟩⟩
      refine ⟨_, results_tmp2 rfl _ _ _, hBf.grown (grownBy_putObj' W D _) hBf.size (fun r e => by cases e; omega), ?_⟩
      rw [HE.out, if_neg hlt]
      exact ⟨_, _, rfl⟩
end Go.Proofs.Ytanbbomdidefjaa
