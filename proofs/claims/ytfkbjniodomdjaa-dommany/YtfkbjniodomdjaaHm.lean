/- Add and Say where there is no room for a node more. -/
import Derived.Test.YtfkbjniodomdjaaEg
import Derived.Test.YtfkbjniodomdjaaGi
namespace Go.Proofs.Ytfkbjniodomdjaa
open Go.RowKit Go.Shelf Go.Lib

section
variable {base D : Nat} {v : Value} {qk : Bool} {ns : List Nd} {W : World}
set_option maxRecDepth 100000 in
set_option maxHeartbeats 1000000 in
theorem add_full (n : Nd) (h : DocM base D v qk ns W) (hb : base ≤ W.heap.size) (ht : tplB n = false) (hl : ns.length = 20000) (hr : RdA W n.aA n.attrs) (hA : n.aA = none → n.attrs = []) (hal : n.attrs.length ≤ 1000000) :
    Calls Try.prog 24 #[.pointer (some ⟨D, 0, none⟩), .agg n.cs.toArray] W fun e W' => e = .returned (.int .i64 (-1)) ∧ Below W.heap.size W W' := by
  obtain ⟨i0, hi, hz0, hz1, hz2⟩ := info_parts infoNd
  obtain ⟨W1, hW1⟩ : ∃ W1, W.alloc (.cells n.cs.toArray 53) = W1 := ⟨_, rfl⟩
  have hs1 : W1.heap.size = W.heap.size + 1 := by rw [← hW1, World.size_alloc]
  have hb1 : Below W.heap.size W W1 := by rw [← hW1]; exact (Below.refl _ W).alloc (Nat.le_refl _) _
  have g1 : W1.heap[W.heap.size]? = some (.cells n.cs.toArray 53 (0, 0)) := by rw [← hW1]; exact heap_alloc_new W _
  obtain ⟨An, cap, rfl, hle, hmx, hg⟩ := h.sl
  have d0 := (h.below hb1).cells.1
  have l0 : W1.cell? ⟨W.heap.size, 0, none⟩ = some (.int .i64 n.kind) := by rw [cell_of_row W1 _ _ _ _ _ g1]; rfl
  have l1 : W1.cell? ⟨W.heap.size, 1, none⟩ = some (.int .i64 n.space) := by rw [cell_of_row W1 _ _ _ _ _ g1]; rfl
  have l2 : W1.cell? ⟨W.heap.size, 2, none⟩ = some (.string n.name) := by rw [cell_of_row W1 _ _ _ _ _ g1]; rfl
  have l3 : W1.cell? ⟨W.heap.size, 3, none⟩ = some (.string n.data) := by rw [cell_of_row W1 _ _ _ _ _ g1]; rfl
  have l4 : W1.cell? ⟨W.heap.size, 4, none⟩ = some (.slice n.aA n.attrs.length n.ac) := by rw [cell_of_row W1 _ _ _ _ _ g1]; rfl
  have l5 : W1.cell? ⟨W.heap.size, 5, none⟩ = some (.string n.pub) := by rw [cell_of_row W1 _ _ _ _ _ g1]; rfl
  have l6 : W1.cell? ⟨W.heap.size, 6, none⟩ = some (.string n.sys) := by rw [cell_of_row W1 _ _ _ _ _ g1]; rfl
  have l7 : W1.cell? ⟨W.heap.size, 7, none⟩ = some (.int .i64 n.up) := by rw [cell_of_row W1 _ _ _ _ _ g1]; rfl
  have l8 : W1.cell? ⟨W.heap.size, 8, none⟩ = some n.kv := by rw [cell_of_row W1 _ _ _ _ _ g1]; rfl
  have l9 : W1.cell? ⟨W.heap.size, 9, none⟩ = some (.int .i64 n.inner) := by rw [cell_of_row W1 _ _ _ _ _ g1]; rfl
  have KA := Lib.hid (alone_any n W1 (hr.below hb1) hA hal)
  have HB1 := Lib.hid hb1
  have HD := Lib.hid h
  have G1 := Lib.hid g1
  have HT := Lib.hid ht
  have hD : D < W.heap.size := h.lt
  have HB := Lib.hid hb
  have HS1 := Lib.hid hs1
  have HMX := Lib.hid hmx
  have HL := Lib.hid hl
  have HLE := Lib.hid hle
  have g2 : decide ((20000 : Int) < (ns.length : Int) + 1) = true := decide_eq_true (by omega)
  clear hr hA hb1 g1 h ht hg hb hs1 hmx hle
  unfold Nd.cs at hW1 KA ⊢
  simp only [List.toArray] at hW1
  subst hW1
  go_enter Try.func24, Try.ntmps24
  go_wp2_with fail
  refine KA.out.mono ?_
  rintro e w2 ⟨A, c, rfl, hoA, hb2⟩
  have g1 : w2.heap[W.heap.size]? = some (.cells n.cs.toArray 53 (0, 0)) := (hb2.block _ (by rw [World.size_alloc]; omega)).trans G1.out
  have hbw : Below W.heap.size W w2 := HB1.out.trans (hb2.mono (by rw [World.size_alloc]; omega))
  have hd2 := HD.out.below hbw
  have hs2 := hbw.size
  have hs2' : W.heap.size < w2.heap.size := (Array.getElem?_eq_some_iff.1 g1).1
  clear l0 l1 l2 l3 l4 l5 l6 l7 l8 l9 d0 KA
  obtain ⟨W3, hW3⟩ : ∃ W3, w2.alloc (.cells (aloneNd n A c).cs.toArray 53) = W3 := ⟨_, rfl⟩
  have hb3 : Below w2.heap.size w2 W3 := by rw [← hW3]; exact (Below.refl _ w2).alloc (Nat.le_refl _) _
  have hs3 : W3.heap.size = w2.heap.size + 1 := by rw [← hW3, World.size_alloc]
  have g3 : W3.heap[w2.heap.size]? = some (.cells (aloneNd n A c).cs.toArray 53 (0, 0)) := by rw [← hW3]; exact heap_alloc_new w2 _
  have q1 := (hb3.block _ hs2').trans g1
  have l0 : W3.cell? ⟨W.heap.size, 0, none⟩ = some (.int .i64 n.kind) := by rw [cell_of_row W3 _ _ _ _ _ q1]; rfl
  have l1 : W3.cell? ⟨W.heap.size, 1, none⟩ = some (.int .i64 n.space) := by rw [cell_of_row W3 _ _ _ _ _ q1]; rfl
  have l2 : W3.cell? ⟨W.heap.size, 2, none⟩ = some (.string n.name) := by rw [cell_of_row W3 _ _ _ _ _ q1]; rfl
  have l3 : W3.cell? ⟨W.heap.size, 3, none⟩ = some (.string n.data) := by rw [cell_of_row W3 _ _ _ _ _ q1]; rfl
  have l4 : W3.cell? ⟨W.heap.size, 4, none⟩ = some (.slice n.aA n.attrs.length n.ac) := by rw [cell_of_row W3 _ _ _ _ _ q1]; rfl
  have l5 : W3.cell? ⟨W.heap.size, 5, none⟩ = some (.string n.pub) := by rw [cell_of_row W3 _ _ _ _ _ q1]; rfl
  have l6 : W3.cell? ⟨W.heap.size, 6, none⟩ = some (.string n.sys) := by rw [cell_of_row W3 _ _ _ _ _ q1]; rfl
  have l7 : W3.cell? ⟨W.heap.size, 7, none⟩ = some (.int .i64 n.up) := by rw [cell_of_row W3 _ _ _ _ _ q1]; rfl
  have l8 : W3.cell? ⟨W.heap.size, 8, none⟩ = some n.kv := by rw [cell_of_row W3 _ _ _ _ _ q1]; rfl
  have l9 : W3.cell? ⟨W.heap.size, 9, none⟩ = some (.int .i64 n.inner) := by rw [cell_of_row W3 _ _ _ _ _ q1]; rfl
  have KT := isTpl_any n W3
  rw [HT.out] at KT
  have KTH := Lib.hid KT
  have HBW := Lib.hid hbw
  have HD2 := Lib.hid hd2
  have HS2 := Lib.hid hs2
  have HS2' := Lib.hid hs2'
  have HB3 := Lib.hid hb3
  have HS3 := Lib.hid hs3
  have G3 := Lib.hid g3
  have HOA := Lib.hid hoA
  have HB2 := Lib.hid hb2
  clear KT hbw hd2 hs2 hs2' hb3 hs3 g3 q1 hoA hb2 g1 HB1 G1 hD
  unfold Nd.cs at hW3 KTH
  subst hW3
  go_wp2_with fail
  refine KTH.out.mono ?_
  rintro e w4 ⟨rfl, hb4⟩
  have hd4 := (HD2.out.below HB3.out).below hb4
  have hs4 := hb4.size
  have c0 := hd4.cells.1
  have HBE := Lib.hid (HBW.out.trans ((HB3.out.trans (hb4.mono (by have := HS3.out; omega))).mono HS2.out))
  clear hd4 HD2 HD
  go_wp2
  go_ret
  exact ⟨rfl, HBE.out⟩
set_option maxHeartbeats 1000000 in
theorem say_full (h : DocM base D v qk ns W) (hb : base ≤ W.heap.size) (hl : ns.length = 20000) (hk : kdN ns 0 = []) :
    Calls Try.prog 25 #[.pointer (some ⟨D, 0, none⟩), .int .i64 0, .string ⟨#[97]⟩, .int .i64 (-1)] W fun e W' => e = .returned (.int .i64 26) ∧ Below W.heap.size W W' := by
  have KS := has_any 0 W h
  rw [show inN ns 0 = true by unfold inN; simp; omega] at KS
  replace KS := Lib.hid KS
  have KP := dplace_any 0 (-1) W h
  rw [show plcN ns 0 (-1) = 0 by unfold plcN; rw [hk]; rfl, show plcB ns 0 (-1) = true by rfl] at KP
  replace KP := Lib.hid KP
  have KA := add_full (txN ⟨#[97]⟩) h hb rfl hl (.inl rfl) (fun _ => rfl) (Nat.zero_le _)
  rw [show (txN ⟨#[97]⟩).cs.toArray = #[.int .i64 3, .int .i64 0, .string ⟨#[]⟩, .string ⟨#[97]⟩, .slice none 0 0, .string ⟨#[]⟩, .string ⟨#[]⟩, .int .i64 0, .slice none 0 0, .int .i64 0] from rfl] at KA
  replace KA := Lib.hid KA
  clear h hb hl hk
  go_enter Try.func25, Try.ntmps25
  go_wp2_with fail
  refine KS.out.mono ?_
  rintro e w1 ⟨rfl, rfl⟩
  go_wp2_with fail
  refine KP.out.mono ?_
  rintro e w1 ⟨rfl, rfl⟩
  go_wp2_with fail
  refine KA.out.mono ?_
  rintro e w2 ⟨rfl, hb⟩
  go_wp2
  go_ret
  exact ⟨rfl, hb⟩
end
end Go.Proofs.Ytfkbjniodomdjaa
