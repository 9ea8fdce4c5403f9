/- Add. -/
import Derived.Test.YtfkbjniodomdjaaEf
import Derived.Maps.AppendAt
namespace Go.Proofs.Ytfkbjniodomdjaa
open Go.RowKit Go.Lib

theorem infoNd : (Try.prog.info? 53).map (fun i => (i.zero, i.size, i.bytes)) = some (some (.agg #[.int .i64 0, .int .i64 0, .string ⟨#[]⟩, .string ⟨#[]⟩, .slice none 0 0, .string ⟨#[]⟩, .string ⟨#[]⟩, .int .i64 0, .slice none 0 0, .int .i64 0]), 10, 144) := by kernel_rfl
theorem cells_add {w : World} {g : Nat} {t : TypeId} {l : List Value} (h : w.heap[g]? = some (.cells l.toArray t (0, 0))) : ∀ j u, l[j]? = some u → w.cell? ((⟨g, 0, none⟩ : Addr).add j) = some u := by
  intro j u hu
  rw [Addr.add_lit, cell_of_row _ _ _ _ _ _ h]
  simpa using hu
theorem alone_one (n : Nd) (A : Option Addr) (c : Nat) : ∀ u ∈ (aloneNd n A c).cs, u.oneCell' = true := by
  intro u hu
  simp only [aloneNd, Nd.cs, List.mem_cons, List.not_mem_nil, or_false] at hu
  rcases hu with rfl | rfl | rfl | rfl | rfl | rfl | rfl | rfl | rfl | rfl <;> rfl
section
variable {base D : Nat} {v : Value} {qk : Bool} {ns : List Nd} {W : World}
set_option maxRecDepth 100000 in
set_option maxHeartbeats 1000000 in
theorem add_plain (n : Nd) (h : DocM base D v qk ns W) (hb : base ≤ W.heap.size) (ht : tplB n = false) (hl : ns.length < 20000) (hr : RdA W n.aA n.attrs) (hA : n.aA = none → n.attrs = []) (hal : n.attrs.length ≤ 1000000) :
    Calls Try.prog 24 #[.pointer (some ⟨D, 0, none⟩), .agg n.cs.toArray] W fun e W' => e = .returned (.int .i64 ns.length) ∧ ∃ A c, Adds base D v qk ns (ns ++ [aloneNd n A c]) W W' := by
  obtain ⟨i0, hi, hz0, hz1, hz2⟩ := info_parts infoNd
  obtain ⟨W1, hW1⟩ : ∃ W1, W.alloc (.cells n.cs.toArray 53) = W1 := ⟨_, rfl⟩
  have hs1 : W1.heap.size = W.heap.size + 1 := by rw [← hW1, World.size_alloc]
  have hb1 : Below W.heap.size W W1 := by rw [← hW1]; exact (Below.refl _ W).alloc (Nat.le_refl _) _
  have g1 : W1.heap[W.heap.size]? = some (.cells n.cs.toArray 53 (0, 0)) := by rw [← hW1]; exact heap_alloc_new W _
  obtain ⟨An, cap, rfl, hle, hmx, hg⟩ := h.sl
  have d0 := (h.below hb1).cells.1
  have l0 : W1.cell? ⟨W.heap.size, 0, none⟩ = some (.int .i64 n.kind) := by rw [cell_of_row W1 _ _ _ _ _ g1]; rfl
  have l1 : W1.cell? ⟨W.heap.size, 1, none⟩ = some (.int .i64 n.space) := by rw [cell_of_row W1 _ _ _ _ _ g1]; rfl
  have l2 : W1.cell? ⟨W.heap.size, 2, none⟩ = some (.string n.name) := by rw [cell_of_row W1 _ _ _ _ _ g1]; rfl
  have l3 : W1.cell? ⟨W.heap.size, 3, none⟩ = some (.string n.data) := by rw [cell_of_row W1 _ _ _ _ _ g1]; rfl
  have l4 : W1.cell? ⟨W.heap.size, 4, none⟩ = some (.slice n.aA n.attrs.length n.ac) := by rw [cell_of_row W1 _ _ _ _ _ g1]; rfl
  have l5 : W1.cell? ⟨W.heap.size, 5, none⟩ = some (.string n.pub) := by rw [cell_of_row W1 _ _ _ _ _ g1]; rfl
  have l6 : W1.cell? ⟨W.heap.size, 6, none⟩ = some (.string n.sys) := by rw [cell_of_row W1 _ _ _ _ _ g1]; rfl
  have l7 : W1.cell? ⟨W.heap.size, 7, none⟩ = some (.int .i64 n.up) := by rw [cell_of_row W1 _ _ _ _ _ g1]; rfl
  have l8 : W1.cell? ⟨W.heap.size, 8, none⟩ = some n.kv := by rw [cell_of_row W1 _ _ _ _ _ g1]; rfl
  have l9 : W1.cell? ⟨W.heap.size, 9, none⟩ = some (.int .i64 n.inner) := by rw [cell_of_row W1 _ _ _ _ _ g1]; rfl
  have KA := Lib.hid (alone_any n W1 (hr.below hb1) hA hal)
  have HB1 := Lib.hid hb1
  have HD := Lib.hid h
  have G1 := Lib.hid g1
  have HT := Lib.hid ht
  have hD : D < W.heap.size := h.lt
  have HB := Lib.hid hb
  have HS1 := Lib.hid hs1
  have HMX := Lib.hid hmx
  have HL := Lib.hid hl
  have HLE := Lib.hid hle
  have g2 : decide ((20000 : Int) < (ns.length : Int) + 1) = false := decide_eq_false (by omega)
  clear hr hA hb1 g1 h ht hg hb hs1 hmx hle
  unfold Nd.cs at hW1 KA ⊢
  simp only [List.toArray] at hW1
  subst hW1
  go_enter Try.func24, Try.ntmps24
  go_wp2_with fail
  refine KA.out.mono ?_
  rintro e w2 ⟨A, c, rfl, hoA, hb2⟩
  have g1 : w2.heap[W.heap.size]? = some (.cells n.cs.toArray 53 (0, 0)) := (hb2.block _ (by rw [World.size_alloc]; omega)).trans G1.out
  have hbw : Below W.heap.size W w2 := HB1.out.trans (hb2.mono (by rw [World.size_alloc]; omega))
  have hd2 := HD.out.below hbw
  have hs2 := hbw.size
  have hs2' : W.heap.size < w2.heap.size := (Array.getElem?_eq_some_iff.1 g1).1
  clear l0 l1 l2 l3 l4 l5 l6 l7 l8 l9 d0 KA
  obtain ⟨W3, hW3⟩ : ∃ W3, w2.alloc (.cells (aloneNd n A c).cs.toArray 53) = W3 := ⟨_, rfl⟩
  have hb3 : Below w2.heap.size w2 W3 := by rw [← hW3]; exact (Below.refl _ w2).alloc (Nat.le_refl _) _
  have hs3 : W3.heap.size = w2.heap.size + 1 := by rw [← hW3, World.size_alloc]
  have g3 : W3.heap[w2.heap.size]? = some (.cells (aloneNd n A c).cs.toArray 53 (0, 0)) := by rw [← hW3]; exact heap_alloc_new w2 _
  have q1 := (hb3.block _ hs2').trans g1
  have l0 : W3.cell? ⟨W.heap.size, 0, none⟩ = some (.int .i64 n.kind) := by rw [cell_of_row W3 _ _ _ _ _ q1]; rfl
  have l1 : W3.cell? ⟨W.heap.size, 1, none⟩ = some (.int .i64 n.space) := by rw [cell_of_row W3 _ _ _ _ _ q1]; rfl
  have l2 : W3.cell? ⟨W.heap.size, 2, none⟩ = some (.string n.name) := by rw [cell_of_row W3 _ _ _ _ _ q1]; rfl
  have l3 : W3.cell? ⟨W.heap.size, 3, none⟩ = some (.string n.data) := by rw [cell_of_row W3 _ _ _ _ _ q1]; rfl
  have l4 : W3.cell? ⟨W.heap.size, 4, none⟩ = some (.slice n.aA n.attrs.length n.ac) := by rw [cell_of_row W3 _ _ _ _ _ q1]; rfl
  have l5 : W3.cell? ⟨W.heap.size, 5, none⟩ = some (.string n.pub) := by rw [cell_of_row W3 _ _ _ _ _ q1]; rfl
  have l6 : W3.cell? ⟨W.heap.size, 6, none⟩ = some (.string n.sys) := by rw [cell_of_row W3 _ _ _ _ _ q1]; rfl
  have l7 : W3.cell? ⟨W.heap.size, 7, none⟩ = some (.int .i64 n.up) := by rw [cell_of_row W3 _ _ _ _ _ q1]; rfl
  have l8 : W3.cell? ⟨W.heap.size, 8, none⟩ = some n.kv := by rw [cell_of_row W3 _ _ _ _ _ q1]; rfl
  have l9 : W3.cell? ⟨W.heap.size, 9, none⟩ = some (.int .i64 n.inner) := by rw [cell_of_row W3 _ _ _ _ _ q1]; rfl
  have KT := isTpl_any n W3
  rw [HT.out] at KT
  have KTH := Lib.hid KT
  have HBW := Lib.hid hbw
  have HD2 := Lib.hid hd2
  have HS2 := Lib.hid hs2
  have HS2' := Lib.hid hs2'
  have HB3 := Lib.hid hb3
  have HS3 := Lib.hid hs3
  have G3 := Lib.hid g3
  have HOA := Lib.hid hoA
  have HB2 := Lib.hid hb2
  clear KT hbw hd2 hs2 hs2' hb3 hs3 g3 q1 hoA hb2 g1 HB1 G1 hD
  unfold Nd.cs at hW3 KTH
  subst hW3
  go_wp2_with fail
  refine KTH.out.mono ?_
  rintro e w4 ⟨rfl, hb4⟩
  have hd4 := (HD2.out.below HB3.out).below hb4
  have g4 := (hb4.block w2.heap.size (by have := HS3.out; omega)).trans G3.out
  have hs4 := hb4.size
  have c0 := hd4.cells.1
  have hdD := hd4.lt
  have HDD := Lib.hid hd4.hd
  have HNE := Lib.hid hd4.row_neD
  have HROW := Lib.hid hd4.row
  have HNEW := Lib.hid (cells_add g4)
  have h63 : ns.length + 1 ≤ maxLen := by have := HL.out; unfold maxLen; omega
  have H63 := Lib.hid h63
  have hby : (ns.length + 1) * 144 ≤ 140737488355328 := by have := HL.out; omega
  have HBY := Lib.hid hby
  have hb4z : base ≤ w4.heap.size := by have := HB.out; have := HS2.out; have := HS3.out; omega
  have HB4Z := Lib.hid hb4z
  have HB4 := Lib.hid hb4
  have HD4 := Lib.hid hd4
  have HDL := Lib.hid hdD
  clear hb4 hd4 g4 hs4 h63 hby hb4z hdD l0 l1 l2 l3 l4 l5 l6 l7 l8 l9
  go_wp2_with (at_builtin; refine wpList_append_own_at _ rfl _ _ 47 rfl base 53 i0 _ 10 144 Try.underlying47 hi hz0 hz1 hz2 rfl (by decide) _ ns.length (cellsN ns) rfl HROW.out ⟨w2.heap.size, 0, none⟩ 1 1 (aloneNd n A c).cs rfl rfl HNEW.out (alone_one n A c) H63.out HBY.out HB4Z.out ?_; intro v' w5 hown5 hgrow5 hz5 hblk5; clear hz5; obtain ⟨A5, c5, rfl⟩ := own_slice hown5; have hd5 := (hgrow5.block D HDL.out (fun e => HNE.out e.symm)).trans HDD.out; have fz5 : w5.frozen? ⟨D, 0, none⟩ = false := (by simp [World.frozen?, hd5]); have c05 : w5.cell? ⟨D, 0, none⟩ = some (.slice An ns.length cap) := (by rw [cell_of_row _ _ _ _ _ _ hd5]; rfl))
  go_ret
  clear c0 c05 fz5
  have hf5 : Frm (fun k => k = D ∨ (Value.slice An ns.length cap).ownBlock = some k) W (w5.setCell ⟨D, 0, none⟩ (.slice A5 (ns.length + 1) c5)) := by
    refine (Frm.trans ?_ (Frm.grown hgrow5 (fun k e => .inr e))).trans (Frm.set _ (.inl rfl))
    exact Frm.below ((HBW.out.trans (HB3.out.mono HS2.out)).trans (HB4.out.mono (by have := HS3.out; have := HS2.out; omega)))
  have hd6 : (w5.setCell ⟨D, 0, none⟩ (.slice A5 (ns.length + 1) c5)).heap[D]? = some (.cells #[.slice A5 (ns.length + 1) c5, .bool qk] 49 (0, 0)) := heap_setCell_same _ D 0 _ _ _ hd5
  have hne5 : (Value.slice A5 (ns.length + 1) c5).ownBlock ≠ some D := row_neD hown5 hd5 (by decide)
  have hr6 := (Frm.set (S := fun k => k = D) (A := w5) (p := ⟨D, 0, none⟩) (.slice A5 (ns.length + 1) c5) rfl).own hown5 (fun k e h => hne5 (h ▸ e))
  have hoA4 := own_keep (own_keep HOA.out HB3.out) HB4.out
  have hoA5 := (Frm.grown (S := fun k => (Value.slice An ns.length cap).ownBlock = some k) hgrow5 (fun k e => e)).own hoA4 (fun k e h => rows_neN hoA4 HROW.out (by decide) k e h)
  have hoA6 := (Frm.set (S := fun k => k = D) (A := w5) (p := ⟨D, 0, none⟩) (.slice A5 (ns.length + 1) c5) rfl).own hoA5 (fun k e h => row_neD hoA5 hd5 (by decide) (h ▸ e))
  refine ⟨rfl, A, c, .slice A5 (ns.length + 1) c5, ?_, hf5.mono (fun k h => by rcases h with h | h; exact .inl h; exact .inr (.inl h)), ?_⟩
  · refine HD.out.push hf5 hd6 (by simpa [cellsN] using hr6) ?_
    intro x hx
    simp at hx
    subst hx
    refine ⟨rfl, rfl, own_move hoA6 (fun _ _ => rfl) ?_⟩
    have := HB.out
    rw [World.size_alloc]
    omega
  · refine DB.push ?_ ?_
    · rcases hblk5 with h | h
      · exact .inl h
      · exact .inr ⟨_, h, by have := HB4.out.size; have := HS3.out; have := HS2.out; omega⟩
    · intro x hx
      simp at hx
      subst hx
      refine ⟨rfl, fun k e => ?_⟩
      have := (HOA.out.lt k e).1
      rw [World.size_alloc] at this
      omega
end
end Go.Proofs.Ytfkbjniodomdjaa
