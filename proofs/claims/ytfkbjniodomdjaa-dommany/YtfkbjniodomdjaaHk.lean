/- The document's example of layer 8. -/
import Derived.Test.YtfkbjniodomdjaaHj
namespace Go.Proofs.Ytfkbjniodomdjaa
open Go.RowKit Go.Shelf Go.Lib
attribute [local go_sem] Oper.semAt_some

theorem Adds.bw {base D : Nat} {v : Value} {qk : Bool} {ns ns' : List Nd} {W W' : World} (h : Adds base D v qk ns ns' W W') (hd : DocM base D v qk ns W) (hb : base ≤ W.heap.size) : Below base W W' := by
  obtain ⟨_, _, hf, _⟩ := h
  exact hf.toBelow hb (fun k e => (hd.in_ k e).1)
set_option maxRecDepth 100000 in
set_option maxHeartbeats 2000000 in
theorem head8_any (W : World) : Calls Try.prog 10 #[] W fun e W' => e = .returned (.bool true) ∧ Below W.heap.size W W' := by
  have KN := Lib.hid (New_any W)
  go_enter Try.func10, Try.ntmps10
  go_wp2_with fail
  refine KN.out.mono ?_
  rintro e W1 ⟨D, v, rfl, hd, hb1⟩
  have hbs := hb1.size
  have KA := add_plain (elN s8P) hd hbs (by kernel_rfl) (by simp) (.inl rfl) (fun _ => rfl) (by decide)
  have HB1 := Lib.hid hb1
  have HD1 := Lib.hid hd
  replace KA := Lib.hid KA
  clear hd hb1 KN
  go_wp2_with fail
  refine KA.out.mono ?_
  rintro e W2 ⟨rfl, A, c, ha⟩
  have hb2 := HB1.out.trans (ha.bw HD1.out hbs)
  obtain ⟨v2, hd2, _, _⟩ := ha
  replace hd2 : DocM W.heap.size D v2 false (h8L1 A c) W2 := hd2
  have KP := put_any 0 1 (-1) W2 hd2 (by simp [h8L1]) (fun x hx => by
    simp only [h8L1, List.mem_cons, List.not_mem_nil, or_false] at hx
    rcases hx with rfl | rfl <;> exact (by decide : (0 : Nat) < 1000000))
  unfold PutPost at KP
  simp only [h8_put1, h8_putE1] at KP
  replace KP := Lib.hid KP
  have HB2 := Lib.hid hb2
  have HD2 := Lib.hid hd2
  have hbs2 := hb2.size
  clear hd2 hb2 KA HB1 HD1
  go_wp2_with fail
  refine KP.out.mono ?_
  rintro e W3 ⟨va, vb, rfl, ha⟩
  have hb3 := HB2.out.trans (ha.adds.bw HD2.out hbs2)
  obtain ⟨hd3, _, _⟩ := ha
  have KS := say_any 1 s8A (-1) W3 hd3 (by simp [h8L2]) (fun x hx => by
    simp only [h8L2, List.mem_cons, List.not_mem_nil, or_false] at hx
    rcases hx with rfl | rfl <;> first | exact (by decide : (0 : Nat) < 1000000) | exact (by decide : (1 : Nat) < 1000000)) (fun x hx => by
    simp only [h8L2, List.mem_cons, List.not_mem_nil, or_false] at hx
    rcases hx with rfl | rfl <;> (simp only [pageNd, aloneNd, elN, s8A]; decide))
  replace KS := Lib.hid KS
  have HB3 := Lib.hid hb3
  have HD3 := Lib.hid hd3
  have hbs3 := hb3.size
  clear hd3 hb3 KP HB2 HD2
  go_wp2_with fail
  refine KS.out.mono ?_
  rintro e W4 ⟨ns4, z, hr, rfl, ha⟩
  have hb4 := HB3.out.trans (ha.bw HD3.out hbs3)
  obtain ⟨A', c', v3, v4, e1, e2⟩ := say_new hr (h8_in2 _ _ _) h8_no.1 (h8_plc2 _ _ _) (h8_say2 _ _ _)
  replace e1 := e1.trans (h8_put2 A A' c c' vb v3 v4)
  replace e2 := e2.trans (h8_putE2 A A' c c' vb)
  subst e1 e2
  obtain ⟨v5, hd4, _, _⟩ := ha
  have KT := say_any 1 s8B (-1) W4 hd4 (by simp [h8L3]) (fun x hx => by
    simp only [h8L3, List.mem_cons, List.not_mem_nil, or_false] at hx
    rcases hx with rfl | rfl | rfl <;> first | exact (by decide : (0 : Nat) < 1000000) | exact (by decide : (1 : Nat) < 1000000)) (fun x hx => by
    simp only [h8L3, List.mem_cons, List.not_mem_nil, or_false] at hx
    rcases hx with rfl | rfl | rfl <;> (simp only [pageNd, aloneNd, elN, txN, s8A, s8B]; decide))
  replace KT := Lib.hid KT
  have HB4 := Lib.hid hb4
  have HD4 := Lib.hid hd4
  have hbs4 := hb4.size
  clear hd4 hb4 hr KS HB3 HD3
  go_wp2_with fail
  refine KT.out.mono ?_
  rintro e W5 ⟨ns5, z, hr, rfl, ha⟩
  have hb5 := HB4.out.trans (ha.bw HD4.out hbs4)
  obtain ⟨e1, e2⟩ := say_grow hr (h8_in3 _ _ _ _ _ _) h8_no.2 (h8_plc3 _ _ _ _ _ _) (h8_say3 _ _ _ _ _ _)
  replace e1 := e1.trans (h8_set3 A A' c c' vb v4)
  subst e1 e2
  obtain ⟨v6, hd5, _, _⟩ := ha
  have KK := Kids_any 1 W5 hd5 (by rw [h8_kd]; simp)
  rw [h8_kd] at KK
  replace KK := Lib.hid KK
  have HB5 := Lib.hid hb5
  have HD5 := Lib.hid hd5
  have hbs5 := hb5.size
  clear hd5 hb5 hr KT HB4 HD4
  go_wp2_with fail
  refine KK.out.mono ?_
  rintro e W6 ⟨v7, rfl, ho, hb6⟩
  have hd6 := HD5.out.below hb6
  have hb6' := HB5.out.trans (hb6.mono hbs5)
  obtain ⟨g7, c7, e7, hc7⟩ : ∃ g c, v7 = .slice (some ⟨g, 0, none⟩) 1 c ∧ W6.cell? ⟨g, 0, none⟩ = some (.int .i64 2) := by
    rcases ho.2 with ⟨_, h0⟩ | ⟨g, cap, cur, e, _⟩
    · cases h0
    · subst e
      exact ⟨g, cap, rfl, ho.cellAt 0 (by decide)⟩
  subst e7
  have KI := Lib.hid (kind_any 2 W6 hd6)
  rw [h8_kind] at KI
  have KW := words_any 1 W6 hd6 (by simp [h8L4]) (fun x hx => by
    simp only [h8L4, List.mem_cons, List.not_mem_nil, or_false] at hx
    rcases hx with rfl | rfl | rfl <;> (simp only [pageNd, aloneNd, elN, s8A, s8B]; decide)) [(2, 1)] 2 true (by rw [h8_src]; exact h8_vis _ _ _ _ _ _)
  rw [h8_txts] at KW
  replace KW := Lib.hid KW
  have HB6 := Lib.hid hb6'
  have hbs6 := hb6'.size
  clear hb6 hb6' hd6 KK HB5 HD5
  clear ho
  go_wp2_with fail
  refine KI.out.mono ?_
  rintro e w7 ⟨rfl, rfl⟩
  go_wp2_with fail
  refine KW.out.mono ?_
  rintro e W8 ⟨rfl, hb8⟩
  go_wp2
  go_ret
  exact ⟨rfl, HB6.out.trans (hb8.mono hbs6)⟩
end Go.Proofs.Ytfkbjniodomdjaa
