/- Add of a template. -/
import Derived.Test.YtfkbjniodomdjaaEg
import Derived.Maps.AppendAt
import Derived.Deep.DeepCutAuto
namespace Go.Proofs.Ytfkbjniodomdjaa
open Go.RowKit Go.Lib

/-- a template alone, its contents beneath the next node -/
def tplNd (n : Nd) (A : Option Addr) (c : Nat) (k : Nat) : Nd := { aloneNd n A c with inner := (k : Int) + 1 }
theorem page_one : ∀ u ∈ pageNd.cs, u.oneCell' = true := by
  intro u hu
  simp only [pageNd, Nd.cs, List.mem_cons, List.not_mem_nil, or_false] at hu
  rcases hu with rfl | rfl | rfl | rfl | rfl | rfl | rfl | rfl | rfl | rfl <;> rfl
section
variable {base D : Nat} {v : Value} {qk : Bool} {ns : List Nd} {W : World}
set_option maxRecDepth 100000 in
set_option maxHeartbeats 1000000 in
theorem add_tpl (n : Nd) (h : DocM base D v qk ns W) (hb : base ≤ W.heap.size) (ht : tplB n = true) (hl : ns.length + 1 < 20000) (hr : RdA W n.aA n.attrs) (hA : n.aA = none → n.attrs = []) (hal : n.attrs.length ≤ 1000000) :
    Calls Try.prog 24 #[.pointer (some ⟨D, 0, none⟩), .agg n.cs.toArray] W fun e W' => e = .returned (.int .i64 ns.length) ∧ ∃ A c, Adds base D v qk ns (ns ++ [tplNd n A c ns.length, pageNd]) W W' := by
  obtain ⟨i0, hi, hz0, hz1, hz2⟩ := info_parts infoNd
  obtain ⟨W1, hW1⟩ : ∃ W1, W.alloc (.cells n.cs.toArray 53) = W1 := ⟨_, rfl⟩
  have hs1 : W1.heap.size = W.heap.size + 1 := by rw [← hW1, World.size_alloc]
  have hb1 : Below W.heap.size W W1 := by rw [← hW1]; exact (Below.refl _ W).alloc (Nat.le_refl _) _
  have g1 : W1.heap[W.heap.size]? = some (.cells n.cs.toArray 53 (0, 0)) := by rw [← hW1]; exact heap_alloc_new W _
  obtain ⟨An, cap, rfl, hle, hmx, hg⟩ := h.sl
  have d0 := (h.below hb1).cells.1
  have l0 : W1.cell? ⟨W.heap.size, 0, none⟩ = some (.int .i64 n.kind) := by rw [cell_of_row W1 _ _ _ _ _ g1]; rfl
  have l1 : W1.cell? ⟨W.heap.size, 1, none⟩ = some (.int .i64 n.space) := by rw [cell_of_row W1 _ _ _ _ _ g1]; rfl
  have l2 : W1.cell? ⟨W.heap.size, 2, none⟩ = some (.string n.name) := by rw [cell_of_row W1 _ _ _ _ _ g1]; rfl
  have l3 : W1.cell? ⟨W.heap.size, 3, none⟩ = some (.string n.data) := by rw [cell_of_row W1 _ _ _ _ _ g1]; rfl
  have l4 : W1.cell? ⟨W.heap.size, 4, none⟩ = some (.slice n.aA n.attrs.length n.ac) := by rw [cell_of_row W1 _ _ _ _ _ g1]; rfl
  have l5 : W1.cell? ⟨W.heap.size, 5, none⟩ = some (.string n.pub) := by rw [cell_of_row W1 _ _ _ _ _ g1]; rfl
  have l6 : W1.cell? ⟨W.heap.size, 6, none⟩ = some (.string n.sys) := by rw [cell_of_row W1 _ _ _ _ _ g1]; rfl
  have l7 : W1.cell? ⟨W.heap.size, 7, none⟩ = some (.int .i64 n.up) := by rw [cell_of_row W1 _ _ _ _ _ g1]; rfl
  have l8 : W1.cell? ⟨W.heap.size, 8, none⟩ = some n.kv := by rw [cell_of_row W1 _ _ _ _ _ g1]; rfl
  have l9 : W1.cell? ⟨W.heap.size, 9, none⟩ = some (.int .i64 n.inner) := by rw [cell_of_row W1 _ _ _ _ _ g1]; rfl
  have KA := Lib.hid (alone_any n W1 (hr.below hb1) hA hal)
  have HB1 := Lib.hid hb1
  have HD := Lib.hid h
  have G1 := Lib.hid g1
  have HT := Lib.hid ht
  have hD : D < W.heap.size := h.lt
  have HB := Lib.hid hb
  have HS1 := Lib.hid hs1
  have HMX := Lib.hid hmx
  have HL := Lib.hid hl
  have HLE := Lib.hid hle
  have g2 : decide ((20000 : Int) < (ns.length : Int) + 2) = false := decide_eq_false (by omega)
  clear hr hA hb1 g1 h ht hg hb hs1 hmx hle
  unfold Nd.cs at hW1 KA ⊢
  simp only [List.toArray] at hW1
  subst hW1
  go_enter Try.func24, Try.ntmps24
  go_wp2_with fail
  refine KA.out.mono ?_
  rintro e w2 ⟨A, c, rfl, hoA, hb2⟩
  have g1 : w2.heap[W.heap.size]? = some (.cells n.cs.toArray 53 (0, 0)) := (hb2.block _ (by rw [World.size_alloc]; omega)).trans G1.out
  have hbw : Below W.heap.size W w2 := HB1.out.trans (hb2.mono (by rw [World.size_alloc]; omega))
  have hd2 := HD.out.below hbw
  have hs2 := hbw.size
  have hs2' : W.heap.size < w2.heap.size := (Array.getElem?_eq_some_iff.1 g1).1
  clear l0 l1 l2 l3 l4 l5 l6 l7 l8 l9 d0 KA
  obtain ⟨W3, hW3⟩ : ∃ W3, w2.alloc (.cells (aloneNd n A c).cs.toArray 53) = W3 := ⟨_, rfl⟩
  have hb3 : Below w2.heap.size w2 W3 := by rw [← hW3]; exact (Below.refl _ w2).alloc (Nat.le_refl _) _
  have hs3 : W3.heap.size = w2.heap.size + 1 := by rw [← hW3, World.size_alloc]
  have g3 : W3.heap[w2.heap.size]? = some (.cells (aloneNd n A c).cs.toArray 53 (0, 0)) := by rw [← hW3]; exact heap_alloc_new w2 _
  have q1 := (hb3.block _ hs2').trans g1
  have l0 : W3.cell? ⟨W.heap.size, 0, none⟩ = some (.int .i64 n.kind) := by rw [cell_of_row W3 _ _ _ _ _ q1]; rfl
  have l1 : W3.cell? ⟨W.heap.size, 1, none⟩ = some (.int .i64 n.space) := by rw [cell_of_row W3 _ _ _ _ _ q1]; rfl
  have l2 : W3.cell? ⟨W.heap.size, 2, none⟩ = some (.string n.name) := by rw [cell_of_row W3 _ _ _ _ _ q1]; rfl
  have l3 : W3.cell? ⟨W.heap.size, 3, none⟩ = some (.string n.data) := by rw [cell_of_row W3 _ _ _ _ _ q1]; rfl
  have l4 : W3.cell? ⟨W.heap.size, 4, none⟩ = some (.slice n.aA n.attrs.length n.ac) := by rw [cell_of_row W3 _ _ _ _ _ q1]; rfl
  have l5 : W3.cell? ⟨W.heap.size, 5, none⟩ = some (.string n.pub) := by rw [cell_of_row W3 _ _ _ _ _ q1]; rfl
  have l6 : W3.cell? ⟨W.heap.size, 6, none⟩ = some (.string n.sys) := by rw [cell_of_row W3 _ _ _ _ _ q1]; rfl
  have l7 : W3.cell? ⟨W.heap.size, 7, none⟩ = some (.int .i64 n.up) := by rw [cell_of_row W3 _ _ _ _ _ q1]; rfl
  have l8 : W3.cell? ⟨W.heap.size, 8, none⟩ = some n.kv := by rw [cell_of_row W3 _ _ _ _ _ q1]; rfl
  have l9 : W3.cell? ⟨W.heap.size, 9, none⟩ = some (.int .i64 n.inner) := by rw [cell_of_row W3 _ _ _ _ _ q1]; rfl
  have KT := isTpl_any n W3
  rw [HT.out] at KT
  have KTH := Lib.hid KT
  have HBW := Lib.hid hbw
  have HD2 := Lib.hid hd2
  have HS2 := Lib.hid hs2
  have HS2' := Lib.hid hs2'
  have HB3 := Lib.hid hb3
  have HS3 := Lib.hid hs3
  have G3 := Lib.hid g3
  have HOA := Lib.hid hoA
  have HB2 := Lib.hid hb2
  clear KT hbw hd2 hs2 hs2' hb3 hs3 g3 q1 hoA hb2 g1 HB1 G1 hD
  unfold Nd.cs at hW3 KTH
  subst hW3
  go_wp2_with fail
  refine KTH.out.mono ?_
  rintro e w4 ⟨rfl, hb4⟩
  have hd4 := (HD2.out.below HB3.out).below hb4
  have g4 := (hb4.block w2.heap.size (by have := HS3.out; omega)).trans G3.out
  have hs4 := hb4.size
  have hM : w2.heap.size < w4.heap.size := by have := HS3.out; omega
  have m9 : w4.cell? ⟨w2.heap.size, 9, none⟩ = some (.int .i64 (-1)) := by rw [cell_of_row _ _ _ _ _ _ g4]; rfl
  have f9 : w4.frozen? ⟨w2.heap.size, 9, none⟩ = false := by simp [World.frozen?, g4]
  have HD4 := Lib.hid hd4
  have HG4 := Lib.hid g4
  have HB4 := Lib.hid hb4
  clear hd4 g4 hs4 hb4 l0 l1 l2 l3 l4 l5 l6 l7 l8 l9
  go_upto_region 7 with fail
  obtain ⟨W5, hW5⟩ : ∃ W5, w4.setCell ⟨w2.heap.size, 9, none⟩ (.int .i64 ((ns.length : Int) + 1)) = W5 := ⟨_, rfl⟩
  have q5 : W5.heap[w2.heap.size]? = some (.cells (tplNd n A c ns.length).cs.toArray 53 (0, 0)) := by
    rw [← hW5]; exact heap_setCell_same _ _ 9 _ _ _ HG4.out
  have hs5 : W5.heap.size = w4.heap.size := by rw [← hW5]; simp [World.setCell]
  have hb5 : Below W.heap.size W W5 := by
    rw [← hW5]
    exact ((HBW.out.trans (HB3.out.mono HS2.out)).trans (HB4.out.mono (by have := HS3.out; have := HS2.out; omega))).setCell (p := ⟨w2.heap.size, 9, none⟩) HS2.out _
  rw [hW5]
  clear m9 f9
  have ho5 : W5.ownsRow w2.heap.size 53 10 (.slice (some ⟨w2.heap.size, 0, none⟩) 1 1) 1 (tplNd n A c ns.length).cs :=
    ⟨rfl, .inr ⟨w2.heap.size, 1, (tplNd n A c ns.length).cs.toArray, rfl, Nat.le_refl _, q5, Nat.le_refl _, by decide, rfl, rfl⟩⟩
  have KP := Lib.hid (page_any W5)
  have hm5 : w2.heap.size < W5.heap.size := by omega
  have HO5 := Lib.hid ho5
  have HB5 := Lib.hid hb5
  have HM5 := Lib.hid hm5
  have HOA4 := Lib.hid (own_keep (own_keep HOA.out HB3.out) HB4.out)
  have HNA : Hid ((Value.slice A n.attrs.length c).ownBlock ≠ some w2.heap.size) := Lib.hid (row_neD HOA4.out HG4.out (by decide))
  have hfr5 : Frm (fun k => k = w2.heap.size) w4 W5 := by rw [← hW5]; exact Frm.set _ rfl
  have HFR5 := Lib.hid hfr5
  clear q5 hs5 hb5 ho5 hM HG4 hfr5 hW5
  unfold pageNd Nd.cs at KP
  simp only [List.length_nil] at KP
  go_wp2_with fail
  refine KP.out.mono ?_
  rintro e w6 ⟨rfl, hw6⟩
  have hb6 : Below W5.heap.size W5 w6 := by rw [hw6]; exact (Below.refl _ W5).alloc (Nat.le_refl _) _
  clear hw6
  obtain ⟨W7, hW7⟩ : ∃ W7, w6.alloc (.cells pageNd.cs.toArray 53) = W7 := ⟨_, rfl⟩
  have hb7 : Below w6.heap.size w6 W7 := by rw [← hW7]; exact (Below.refl _ w6).alloc (Nat.le_refl _) _
  have g7 : W7.heap[w6.heap.size]? = some (.cells pageNd.cs.toArray 53 (0, 0)) := by rw [← hW7]; exact heap_alloc_new w6 _
  have hb57 : Below W5.heap.size W5 W7 := hb6.trans (hb7.mono hb6.size)
  have HO7 := Lib.hid (own_keep HO5.out hb57)
  have HN7 := Lib.hid (cells_add g7)
  have HB57 := Lib.hid hb57
  have HBS7 := Lib.hid (show w2.heap.size ≤ W7.heap.size by have := hb57.size; omega)
  have H71 := Lib.hid (show 1 + 1 ≤ maxLen by decide)
  have H72 := Lib.hid (show (1 + 1) * 144 ≤ 140737488355328 by decide)
  unfold pageNd Nd.cs at hW7
  simp only [List.length_nil] at hW7
  clear g7 hb7 hb6 hb57 hm5 KP
  subst hW7
  go_upto_region 8 with (at_builtin; refine wpList_append_own_at _ rfl _ _ 47 rfl w2.heap.size 53 i0 _ 10 144 Try.underlying47 hi hz0 hz1 hz2 rfl (by decide) _ 1 (tplNd n A c ns.length).cs rfl HO7.out ⟨w6.heap.size, 0, none⟩ 1 1 pageNd.cs rfl rfl HN7.out page_one H71.out H72.out HBS7.out ?_; intro v8 w8 hown8 hg8 hz8 hblk8; clear hz8 hblk8)
  have hg8' : World.grownBy _ w8 (some w2.heap.size) := hg8
  obtain ⟨g8, c8, rfl⟩ : ∃ g c, v8 = .slice (some ⟨g, 0, none⟩) 2 c := by
    rcases hown8.2 with ⟨_, h⟩ | ⟨g, cap, cur, h, _⟩
    · omega
    · exact ⟨g, cap, h⟩
  have hb8 : Below W.heap.size W w8 := (HB5.out.trans (HB57.out.mono HB5.out.size)).grown hg8' (by have := HBS7.out; have := HS2.out; omega) (fun k e => by cases e; exact HS2.out)
  have hd8 := HD.out.below hb8
  have fr48 : Frm (fun k => k = w2.heap.size) w4 w8 := (HFR5.out.trans (Frm.below HB57.out)).trans (Frm.grown hg8' (fun k e => by cases e; rfl))
  have hoA8 := fr48.own HOA4.out (fun k e h => HNA.out (h ▸ e))
  have HNEW := Lib.hid (hown8.cells (g := g8) rfl)
  have c0 := hd8.cells.1
  have HDD := Lib.hid hd8.hd
  have HDL := Lib.hid hd8.lt
  have HNE := Lib.hid hd8.row_neD
  have HROW := Lib.hid hd8.row
  have H63 := Lib.hid (show ns.length + 2 ≤ maxLen by unfold maxLen; omega)
  have HBY := Lib.hid (show (ns.length + 2) * 144 ≤ 140737488355328 by omega)
  have HBZ := Lib.hid (show base ≤ w8.heap.size by have := HB.out; have := hb8.size; omega)
  have HONE := Lib.hid (show ∀ u ∈ (tplNd n A c ns.length).cs ++ pageNd.cs, u.oneCell' = true from fun u hu => by
    rcases List.mem_append.1 hu with h | h
    · simp only [tplNd, aloneNd, Nd.cs, List.mem_cons, List.not_mem_nil, or_false] at h
      rcases h with rfl | rfl | rfl | rfl | rfl | rfl | rfl | rfl | rfl | rfl <;> rfl
    · exact page_one u h)
  have HB8 := Lib.hid hb8
  have HOA8 := Lib.hid hoA8
  have HDOC := Lib.hid hd8
  clear hown8 hg8 hg8' hb8 hd8 fr48 hoA8
  go_wp2_with (at_builtin; refine wpList_append_own_at _ rfl _ _ 47 rfl base 53 i0 _ 10 144 Try.underlying47 hi hz0 hz1 hz2 rfl (by decide) _ ns.length (cellsN ns) rfl HROW.out ⟨g8, 0, none⟩ 2 c8 ((tplNd n A c ns.length).cs ++ pageNd.cs) rfl rfl HNEW.out HONE.out H63.out HBY.out HBZ.out ?_; intro v' w9 hown9 hgrow9 hz9 hblk9; clear hz9; obtain ⟨A9, c9, rfl⟩ := own_slice hown9; have hd9 := (hgrow9.block D HDL.out (fun e => HNE.out e.symm)).trans HDD.out; have fz9 : w9.frozen? ⟨D, 0, none⟩ = false := (by simp [World.frozen?, hd9]); have c09 : w9.cell? ⟨D, 0, none⟩ = some (.slice An ns.length cap) := (by rw [cell_of_row _ _ _ _ _ _ hd9]; rfl))
  go_ret
  clear c0 c09 fz9
  have hf9 : Frm (fun k => k = D ∨ (Value.slice An ns.length cap).ownBlock = some k) W (w9.setCell ⟨D, 0, none⟩ (.slice A9 (ns.length + 2) c9)) :=
    (Frm.trans (Frm.below HB8.out) (Frm.grown hgrow9 (fun k e => .inr e))).trans (Frm.set _ (.inl rfl))
  have hd10 : (w9.setCell ⟨D, 0, none⟩ (.slice A9 (ns.length + 2) c9)).heap[D]? = some (.cells #[.slice A9 (ns.length + 2) c9, .bool qk] 49 (0, 0)) := heap_setCell_same _ D 0 _ _ _ hd9
  have hne9 : (Value.slice A9 (ns.length + 2) c9).ownBlock ≠ some D := row_neD hown9 hd9 (by decide)
  have hr10 := (Frm.set (S := fun k => k = D) (A := w9) (p := ⟨D, 0, none⟩) (.slice A9 (ns.length + 2) c9) rfl).own hown9 (fun k e h => hne9 (h ▸ e))
  have hoA9 := (Frm.grown (S := fun k => (Value.slice An ns.length cap).ownBlock = some k) hgrow9 (fun k e => e)).own HOA8.out (fun k e h => rows_neN HOA8.out HROW.out (by decide) k e h)
  have hoA10 := (Frm.set (S := fun k => k = D) (A := w9) (p := ⟨D, 0, none⟩) (.slice A9 (ns.length + 2) c9) rfl).own hoA9 (fun k e h => row_neD hoA9 hd9 (by decide) (h ▸ e))
  refine ⟨rfl, A, c, .slice A9 (ns.length + 2) c9, ?_, hf9.mono (fun k h => by rcases h with h | h; exact .inl h; exact .inr (.inl h)), ?_⟩
  · refine HD.out.push hf9 hd10 (by simpa [cellsN] using hr10) ?_
    intro x hx
    simp at hx
    rcases hx with rfl | rfl
    · refine ⟨rfl, rfl, own_move hoA10 (fun _ _ => rfl) ?_⟩
      have := HB.out
      rw [World.size_alloc]
      omega
    · exact ⟨rfl, rfl, World.ownsRow_nil _ _ _ _⟩
  · refine DB.push ?_ ?_
    · rcases hblk9 with h | h
      · exact .inl h
      · exact .inr ⟨_, h, HB8.out.size⟩
    · intro x hx
      simp at hx
      rcases hx with rfl | rfl
      · refine ⟨rfl, fun k e => ?_⟩
        have := (HOA.out.lt k e).1
        rw [World.size_alloc] at this
        omega
      · exact ⟨rfl, fun k e => by cases e⟩
end
end Go.Proofs.Ytfkbjniodomdjaa
