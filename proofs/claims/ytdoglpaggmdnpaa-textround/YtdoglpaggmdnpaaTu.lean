/- The law TextRound, walked. -/
import Derived.Test.YtdoglpaggmdnpaaTh
import Derived.Test.YtdoglpaggmdnpaaTv
import Derived.Lib.SlBytesConst
import Derived.Laws.BytesArg
import Derived.ArgAppend
namespace Go.Proofs.Ytdoglpaggmdnpaa
open Go.RowKit

/-- Encode's answer, opened: its head lies at an address -/
theorem enc_open {rs : List Int} {w w' : World} {e : Ending} (h : EncPost rs w e w') (hl : 0 < (Tx.encode rs).length) :
    ∃ g cap, e = .returned (.slice (some ⟨g, 0, none⟩) (Tx.encode rs).length cap) ∧ g < w'.heap.size ∧ (∀ i, i < (Tx.encode rs).length → w'.cell? ⟨g, i, none⟩ = some (.int .u8 ((Tx.encode rs)[i]?.getD 0))) ∧ Below w.heap.size w w' := by
  obtain ⟨v, rfl, hrow, hb⟩ := h
  rcases hrow.2 with ⟨_, hn⟩ | ⟨g, cap, cur, rfl, _, hg, _⟩
  · omega
  · refine ⟨g, cap, rfl, (Array.getElem?_eq_some_iff.1 hg).1, fun i hi => ?_, hb⟩
    rw [hrow.cellAt i (by omega), List.getElem?_map, List.getElem?_eq_getElem hi]
    simp

theorem decode_tail (ds : List Int) (hv : ∀ x ∈ ds, Tx.Ok x) (h13 : ∀ x ∈ ds, x ≠ 13) : Tx.decode (Tx.encode (120 :: ds)) = 120 :: ds :=
  Tx.decode_encode (120 :: ds) (fun x hx => by
    simp only [List.mem_cons] at hx
    rcases hx with rfl | hx
    · unfold Tx.Ok; omega
    · exact hv x hx) (fun x hx => by
    simp only [List.mem_cons] at hx
    rcases hx with rfl | hx
    · omega
    · exact h13 x hx) (by simp)
theorem getD_rng {E : List Int} (h : ∀ x ∈ E, 0 ≤ x ∧ x ≤ 255) (i : Nat) : 0 ≤ E[i]?.getD 0 ∧ E[i]?.getD 0 ≤ 255 := by
  cases hi : E[i]? with
  | none => simp
  | some x => exact h x (List.mem_of_getElem? hi)
theorem str_of {P : Program} {t e u : TypeId} (ht : P.underlying t = some (.slice e)) (he : P.underlying e = some (.int .u8)) (hu : P.underlying u = some .string) (w : World) (g c : Nat) (E : List Int) (hc : ∀ i, i < E.length → w.cell? ⟨g, i, none⟩ = some (.int .u8 (E[i]?.getD 0))) :
    (convert t u (.slice (some ⟨g, 0, none⟩) E.length c)).run P w = .ok (.string (strOfNums E)) w :=
  run_convert_bytes_arg w t e ht he g 0 E.length c E rfl (fun i hi => by rw [Nat.zero_add, hc i hi]; simp) u hu
theorem heap_alloc_last' (w : World) (o : Obj) : (w.alloc o).heap[w.heap.size]? = some o := by
  show (w.heap.push o)[w.heap.size]? = some o
  simp
theorem mark_cell (w : World) (j : Nat) (u : Value) (hu : ([.int .u8 120] : List Value)[j]? = some u) : (w.alloc (.cells #[.int .u8 120] 5 (1, 2))).cell? ((⟨w.heap.size, 0, none⟩ : Addr).add j) = some u := by
  have : (⟨w.heap.size, 0, none⟩ : Addr).add j = ⟨w.heap.size, j, none⟩ := by unfold Addr.add; split <;> simp_all
  have hh : (w.alloc (.cells #[.int .u8 120] 5 (1, 2))).heap[w.heap.size]? = some (.cells #[.int .u8 120] 5 (1, 2)) := heap_alloc_last' w _
  rw [this]
  simp only [World.cell?, hh]
  simpa using hu
theorem cons_bd {b : List Int} (h : ∀ i : Nat, 0 ≤ b[i]?.getD 0 ∧ b[i]?.getD 0 ≤ 255) : ∀ i : Nat, 0 ≤ (120 :: b : List Int)[i]?.getD 0 ∧ (120 :: b : List Int)[i]?.getD 0 ≤ 255 := fun i => by
  cases i with
  | zero => simp
  | succ i => simpa using h i

set_option maxRecDepth 100000 in
set_option maxHeartbeats 600000 in
theorem round_some (b : List Int) (A : Option Addr) (cap : Nat) (w : World) (hr : Rd w .u8 A b) (hbd : ∀ i : Nat, 0 ≤ b[i]?.getD 0 ∧ b[i]?.getD 0 ≤ 255) (hl : b.length ≤ 500) (hne : 0 < b.length) :
    Calls Try.prog 7 #[.slice A b.length cap] w fun e w' => e = .returned (.bool true) ∧ Below w.heap.size w w' := by
  obtain ⟨i0, hi, hz0, hz1, hz2⟩ := info_parts infoU8
  obtain ⟨bb, off, rfl, hbb, hcs⟩ := hr.pos hne
  have kc := fun (w : World) (C : Array Value) (n c : Nat) => Lib.run_convert_bytes_const (P := Try.prog) w 22 5 C n c Try.underlying22 Try.underlying5
  have hbm : ∀ x ∈ b, 0 ≤ x ∧ x ≤ 255 := by
    intro x hx
    obtain ⟨i, hi, rfl⟩ := List.getElem_of_mem hx
    have := hbd i
    rw [List.getElem?_eq_getElem hi] at this
    exact this
  clear hcs
  go_enter Try.func7, Try.ntmps7
  go_wp2_with (first
    | (go_at_call 10; refine (head1_any _).mono ?_; rintro e w1 ⟨rfl, hb1⟩; have hrw := hr.below hb1)
    | (at_builtin; refine wpList_append_grows _ rfl _ _ 22 rfl 5 i0 (.int .u8 0) 1 1 Try.underlying22 hi hz0 hz1 hz2 rfl (by decide) (some ⟨w1.heap.size, 0, none⟩) 1 1 [.int .u8 120] rfl (fun h => by cases h) rfl (fun q hq j u hu => by injection hq with hq; subst hq; exact mark_cell w1 j u hu) ⟨bb, off, none⟩ b.length cap (b.map (Value.int .u8)) rfl (by simp) (by exact (hrw.below ((Below.refl _ _).alloc (Nat.le_refl _) _)).add) (by intro u hu; simp at hu; obtain ⟨z, _, rfl⟩ := hu; rfl) (by omega) (by unfold maxLen; omega) (by omega) ?_; intro v' w2 hown' hgrow))
  obtain ⟨A2, c2, rfl, hlen2, hle2, hnone2, hrd2⟩ := Rd.own (k := .u8) (xs := 120 :: b) (v := v') (by simpa using hown')
  have hB2 : Below w.heap.size w w2 := (hb1.alloc hb1.size _).grown hgrow (by have := hb1.size; simp; omega) (fun k e => by cases e)
  clear hown' hgrow hrw hr kc
  obtain ⟨ds, hds, hv, h13⟩ := Tx.decode_x b hbm
  have hD1 := decode_any (120 :: b) A2 c2 w2 hrd2 hnone2 (by simp; omega) (cons_bd hbd)
  rw [hds] at hD1
  have hlD : (120 :: ds : List Int).length ≤ 501 := by
    rw [← hds]
    have h1 := Tx.decTo_len (Tx.signs (120 :: b))
    have h2 := Tx.rest_len (120 :: b) (120 :: b).length 0 (by omega)
    unfold Tx.decode
    unfold Tx.signs at h1 ⊢
    simp only [List.length_cons] at h1 h2 ⊢
    omega
  have hbD : ∀ i : Nat, -2147483648 ≤ (120 :: ds : List Int)[i]?.getD 0 ∧ (120 :: ds : List Int)[i]?.getD 0 ≤ 2147483647 := fun i => by
    cases hi : (120 :: ds : List Int)[i]? with
    | none => simp
    | some x =>
      have hx := List.mem_of_getElem? hi
      simp only [List.mem_cons] at hx
      rcases hx with rfl | hx
      · simp
      · have := hv x hx; unfold Tx.Ok at this; simp; omega
  have hlE := Tx.encode_len (120 :: ds)
  have hbE := Tx.encode_bytes (120 :: ds)
  have hhE : ∃ t, Tx.encode (120 :: ds) = 120 :: t := ⟨Tx.encode ds, by simp [Tx.encode, Tx.enc1, Tx.san, Tx.enc0]⟩
  obtain ⟨E, hE⟩ : ∃ E, Tx.encode (120 :: ds) = E := ⟨_, rfl⟩
  have HD1 := Lib.hid hD1
  have HE := Lib.hid hE
  have HB := Lib.hid hbE
  have HH := Lib.hid hhE
  have HBD := Lib.hid hbD
  clear hD1 hE hbE hhE hbD hbd
  have hw2 : (120 :: b : List Int).length = b.length + 1 := rfl
  try rw [hw2] at HD1
  clear hw2
  go_wp2_with fail
  refine HD1.out.mono ?_
  rintro e w3 ⟨A3, c3, rfl, hrd3, _, _, hb3⟩
  go_wp2_with fail
  refine (encode_any (120 :: ds) A3 c3 _ hrd3 (by omega) HBD.out).mono ?_
  intro e w4 he4
  obtain ⟨g4, c4, rfl, hg4, hcl4, hb4⟩ := enc_open he4 (by obtain ⟨t, ht⟩ := HH.out; rw [ht]; simp)
  rw [HE.out] at hcl4 ⊢
  have hbE : ∀ x ∈ E, 0 ≤ x ∧ x ≤ 255 := by rw [← HE.out]; exact HB.out
  have hEl : E.length ≤ 2004 := by rw [← HE.out]; omega
  obtain ⟨t, ht⟩ := HH.out
  rw [HE.out] at ht
  have hE0 : 0 < E.length := by rw [ht]; simp
  have hrdE : Rd w4 .u8 (some ⟨g4, 0, none⟩) E := .inr ⟨g4, 0, rfl, hg4, fun i hi => by rw [Nat.zero_add]; exact hcl4 i hi⟩
  have HT := Lib.hid ht
  have hd2 : Tx.decode E = 120 :: ds := by rw [← HE.out]; exact decode_tail ds hv h13
  have hD2 := decode_any E (some ⟨g4, 0, none⟩) c4 w4 hrdE (fun h => by cases h) (by omega) (getD_rng hbE)
  rw [hd2] at hD2
  have HD2 := Lib.hid hD2
  have HCL := Lib.hid hcl4
  clear ht hd2 hD2 he4 hcl4 hrdE hbE
  go_wp2_with fail
  refine HD2.out.mono ?_
  rintro e w5 ⟨A5, c5, rfl, hrd5, _, _, hb5⟩
  go_wp2_with fail
  refine (encode_any (120 :: ds) A5 c5 _ hrd5 (by omega) HBD.out).mono ?_
  intro e w6 he6
  obtain ⟨g6, c6, rfl, hg6, hcl6, hb6⟩ := enc_open he6 (by obtain ⟨t, ht⟩ := HH.out; rw [ht]; simp)
  rw [HE.out] at hcl6 ⊢
  have hb46 : Below w4.heap.size w4 w6 := hb5.trans (hb6.mono hb5.size)
  have hcl4' : ∀ i, i < E.length → w6.cell? ⟨g4, i, none⟩ = some (.int .u8 (E[i]?.getD 0)) := fun i hi => (hb46.cell (p := ⟨g4, i, none⟩) hg4).trans (HCL.out i hi)
  have s4 := str_of (P := Try.prog) Try.underlying22 Try.underlying5 Try.underlying9 w6 g4 c4 E hcl4'
  have s6 := str_of (P := Try.prog) Try.underlying22 Try.underlying5 Try.underlying9 w6 g6 c6 E hcl6
  have c0 : w6.cell? ⟨g4, 0, none⟩ = some (.int .u8 120) := by have := hcl4' 0 hE0; rw [HT.out] at this; exact this
  have teq : ((strOfNums E).toList == (strOfNums E).toList) = true := by simp
  have hBw : Below w.heap.size w w6 := hB2.trans ((hb3.trans ((hb4.trans (hb46.mono hb4.size)).mono hb3.size)).mono hB2.size)
  clear hcl4' hcl6 he6
  go_wp2
  go_ret
  exact ⟨rfl, hBw⟩

theorem append_none (w : World) (ty : TypeId) (g : Nat) (A : Option Addr) (c : Nat) : (Builtin.append_ #[22, 22] ty #[.slice (some ⟨g, 0, none⟩) 1 1, .slice A 0 c]).run Try.prog w = .ok (.slice (some ⟨g, 0, none⟩) 1 1) w := by
  obtain ⟨i0, hi, hz0, hz1, hz2⟩ := info_parts infoU8
  cases A <;> simp [Builtin.append_, run_underlying Try.underlying22, sizeOf, typeInfo, hi, Builtin.lenOf, Builtin.firstCells, storeCells, loadCells, loadCellsFrom]

theorem wpList_append0 {ops : Array Oper} {rest : List Oper} {o : Oper} {a : Act} {w : World} {Q : Exit → Act → World → Prop} (hgd : o.guard = none) (s x : Operand)
    (ho : o.op = .call { callee := .builtin .append, args := #[s, x], argTypes := #[22, 22] }) (g : Nat) (A : Option Addr) (c : Nat) (hs : a.eval s = .slice (some ⟨g, 0, none⟩) 1 1) (hx : a.eval x = .slice A 0 c)
    (h : wpList Try.prog ops Q rest (a.put o.dst (.slice (some ⟨g, 0, none⟩) 1 1)) w) : wpList Try.prog ops Q (o :: rest) a w :=
  wpList_plain hgd fun _ hK => by
    unfold Oper.wp execOp
    simp only [ho, resolve, invoke, builtin, Sem.run_bind, Sem.run_pure, Result.andThen_ok, List.map_toArray, List.map_cons, List.map_nil, hs, hx, append_none]
    exact hK _ _ h

set_option maxRecDepth 100000 in
set_option maxHeartbeats 600000 in
theorem round_nil (A : Option Addr) (cap : Nat) (w : World) :
    Calls Try.prog 7 #[.slice A 0 cap] w fun e w' => e = .returned (.bool true) ∧ Below w.heap.size w w' := by
  have kc := fun (w : World) (C : Array Value) (n c : Nat) => Lib.run_convert_bytes_const (P := Try.prog) w 22 5 C n c Try.underlying22 Try.underlying5
  go_enter Try.func7, Try.ntmps7
  go_wp2_with (first
    | (go_at_call 10; refine (head1_any _).mono ?_; rintro e w1 ⟨rfl, hb1⟩)
    | (at_builtin; refine wpList_append0 rfl _ _ rfl w1.heap.size A cap rfl rfl ?_))
  have hB2 : Below w.heap.size w (w1.alloc (.cells #[.int .u8 120] 5 (1, 2))) := hb1.alloc hb1.size _
  have hrd2 : Rd (w1.alloc (.cells #[.int .u8 120] 5 (1, 2))) .u8 (some ⟨w1.heap.size, 0, none⟩) (120 :: []) := .inr ⟨w1.heap.size, 0, rfl, by simp, fun i hi => by
    have := mark_cell w1 i (.int .u8 120) (by simp at hi; subst hi; rfl)
    simp at hi
    subst hi
    simpa [Addr.add] using this⟩
  obtain ⟨A2, hA2⟩ : ∃ A2 : Option Addr, some ⟨w1.heap.size, 0, none⟩ = A2 := ⟨_, rfl⟩
  have hnone2 : A2 = none → 1 = 0 := fun h => by rw [← hA2] at h; cases h
  obtain ⟨w2, hw2⟩ : ∃ w2, w1.alloc (.cells #[.int .u8 120] 5 (1, 2)) = w2 := ⟨_, rfl⟩
  rw [hA2] at hrd2 ⊢
  rw [hw2] at hrd2 hB2 ⊢
  clear hA2 hw2 kc hb1
  obtain ⟨ds, hds, hv, h13⟩ := Tx.decode_x [] (by simp)
  have hD1 := decode_any (120 :: []) A2 1 w2 hrd2 hnone2 (by simp) (cons_bd (by simp))
  rw [hds] at hD1
  have hlD : (120 :: ds : List Int).length ≤ 501 := by
    rw [← hds]
    have h1 := Tx.decTo_len (Tx.signs (120 :: []))
    have h2 := Tx.rest_len (120 :: []) (120 :: []).length 0 (by omega)
    unfold Tx.decode
    unfold Tx.signs at h1 ⊢
    simp only [List.length_cons, List.length_nil] at h1 h2 ⊢
    omega
  have hbD : ∀ i : Nat, -2147483648 ≤ (120 :: ds : List Int)[i]?.getD 0 ∧ (120 :: ds : List Int)[i]?.getD 0 ≤ 2147483647 := fun i => by
    cases hi : (120 :: ds : List Int)[i]? with
    | none => simp
    | some x =>
      have hx := List.mem_of_getElem? hi
      simp only [List.mem_cons] at hx
      rcases hx with rfl | hx
      · simp
      · have := hv x hx; unfold Tx.Ok at this; simp; omega
  have hlE := Tx.encode_len (120 :: ds)
  have hbE := Tx.encode_bytes (120 :: ds)
  have hhE : ∃ t, Tx.encode (120 :: ds) = 120 :: t := ⟨Tx.encode ds, by simp [Tx.encode, Tx.enc1, Tx.san, Tx.enc0]⟩
  obtain ⟨E, hE⟩ : ∃ E, Tx.encode (120 :: ds) = E := ⟨_, rfl⟩
  have HD1 := Lib.hid hD1
  have HE := Lib.hid hE
  have HB := Lib.hid hbE
  have HH := Lib.hid hhE
  have HBD := Lib.hid hbD
  clear hD1 hE hbE hhE hbD
  go_wp2_with fail
  refine HD1.out.mono ?_
  rintro e w3 ⟨A3, c3, rfl, hrd3, _, _, hb3⟩
  go_wp2_with fail
  refine (encode_any (120 :: ds) A3 c3 _ hrd3 (by omega) HBD.out).mono ?_
  intro e w4 he4
  obtain ⟨g4, c4, rfl, hg4, hcl4, hb4⟩ := enc_open he4 (by obtain ⟨t, ht⟩ := HH.out; rw [ht]; simp)
  rw [HE.out] at hcl4 ⊢
  have hbE : ∀ x ∈ E, 0 ≤ x ∧ x ≤ 255 := by rw [← HE.out]; exact HB.out
  have hEl : E.length ≤ 2004 := by rw [← HE.out]; omega
  obtain ⟨t, ht⟩ := HH.out
  rw [HE.out] at ht
  have hE0 : 0 < E.length := by rw [ht]; simp
  have hrdE : Rd w4 .u8 (some ⟨g4, 0, none⟩) E := .inr ⟨g4, 0, rfl, hg4, fun i hi => by rw [Nat.zero_add]; exact hcl4 i hi⟩
  have HT := Lib.hid ht
  have hd2 : Tx.decode E = 120 :: ds := by rw [← HE.out]; exact decode_tail ds hv h13
  have hD2 := decode_any E (some ⟨g4, 0, none⟩) c4 w4 hrdE (fun h => by cases h) (by omega) (getD_rng hbE)
  rw [hd2] at hD2
  have HD2 := Lib.hid hD2
  have HCL := Lib.hid hcl4
  clear ht hd2 hD2 he4 hcl4 hrdE hbE
  go_wp2_with fail
  refine HD2.out.mono ?_
  rintro e w5 ⟨A5, c5, rfl, hrd5, _, _, hb5⟩
  go_wp2_with fail
  refine (encode_any (120 :: ds) A5 c5 _ hrd5 (by omega) HBD.out).mono ?_
  intro e w6 he6
  obtain ⟨g6, c6, rfl, hg6, hcl6, hb6⟩ := enc_open he6 (by obtain ⟨t, ht⟩ := HH.out; rw [ht]; simp)
  rw [HE.out] at hcl6 ⊢
  have hb46 : Below w4.heap.size w4 w6 := hb5.trans (hb6.mono hb5.size)
  have hcl4' : ∀ i, i < E.length → w6.cell? ⟨g4, i, none⟩ = some (.int .u8 (E[i]?.getD 0)) := fun i hi => (hb46.cell (p := ⟨g4, i, none⟩) hg4).trans (HCL.out i hi)
  have s4 := str_of (P := Try.prog) Try.underlying22 Try.underlying5 Try.underlying9 w6 g4 c4 E hcl4'
  have s6 := str_of (P := Try.prog) Try.underlying22 Try.underlying5 Try.underlying9 w6 g6 c6 E hcl6
  have c0 : w6.cell? ⟨g4, 0, none⟩ = some (.int .u8 120) := by have := hcl4' 0 hE0; rw [HT.out] at this; exact this
  have teq : ((strOfNums E).toList == (strOfNums E).toList) = true := by simp
  have hBw : Below w.heap.size w w6 := hB2.trans ((hb3.trans ((hb4.trans (hb46.mono hb4.size)).mono hb3.size)).mono hB2.size)
  clear hcl4' hcl6 he6
  go_wp2
  go_ret
  exact ⟨rfl, hBw⟩

set_option maxHeartbeats 400000 in
theorem round_long (b : List Int) (A : Option Addr) (cap : Nat) (w : World) (hl : 500 < b.length) :
    Calls Try.prog 7 #[.slice A b.length cap] w fun e w' => e = .returned (.bool true) ∧ Below w.heap.size w w' := by
  go_enter Try.func7, Try.ntmps7
  go_wp2_with (go_at_call 10; refine (head1_any _).mono ?_; rintro e w1 ⟨rfl, hb1⟩)
  go_ret
  exact ⟨rfl, hb1⟩

end Go.Proofs.Ytdoglpaggmdnpaa
