/- Contract of frame.Next. -/
import Derived.Test.YtanbbomdidefjaaFl
import Derived.Deep.RegionHeld3
import Derived.Laws.Cover3
import Derived.Stop.BytesEq
namespace Go.Proofs.Ytanbbomdidefjaa
open Go.RowKit Go.Shelf
open Extern.Stop (cell)

/-- the frame with which bytes begin: its data and its size, or why there is none -/
def nextP (b : List Int) : Except Int (List Int × Nat) :=
  if (lenOf b).2.2 ≠ 0 then .error (lenOf b).2.2
  else if b.length < (lenOf b).2.1 + 4 + (lenOf b).1 then .error 8
  else if (b.drop (lenOf b).2.1).take 4 = Fx.four (Fx.sum ((b.drop ((lenOf b).2.1 + 4)).take (lenOf b).1)) then .ok ((b.drop ((lenOf b).2.1 + 4)).take (lenOf b).1, (lenOf b).2.1 + 4 + (lenOf b).1)
  else .error 12
def NextPost (b : List Int) (w : World) (e : Ending) (w' : World) : Prop :=
  Below w.heap.size w w' ∧ match nextP b with
    | .error k => e = .returned (.tuple #[.slice none 0 0, .int .i64 0, .int .i64 k])
    | .ok r => ∃ v, e = .returned (.tuple #[v, .int .i64 r.2, .int .i64 0]) ∧ w'.ownsRow w.heap.size 5 1 v r.1.length (r.1.map (Value.int .u8))

theorem eq4N (N d : Nat) (hN : N = d + 2) (S : Nat) (hS : S < 4294967296) (b0 b1 b2 b3 : Int) (h : Byte8 [b0, b1, b2, b3]) (w : World) :
    (Op.equalIn N 51 (.agg (bytes4 S)) (.agg #[.int .u8 b0, .int .u8 b1, .int .u8 b2, .int .u8 b3])).run Try.prog w = .ok (decide ([b0, b1, b2, b3] = Fx.four S)) w := by
  have hb : ∀ l : List Int, Byte8 l → (l.map fun c => UInt8.ofNat c.toNat).map cell = l.map (Value.int .u8) := by
    intro l hl
    rw [List.map_map]
    apply List.map_congr_left
    intro c hc
    have := hl c hc
    simp only [Function.comp_apply, cell]
    congr 1
    rw [UInt8.toNat_ofNat', Nat.mod_eq_of_lt (by omega)]
    exact Int.toNat_of_nonneg this.1
  have h4 : Byte8 (Fx.four S) := by
    intro c hc
    unfold Fx.four at hc
    simp only [List.mem_cons, List.not_mem_nil, or_false] at hc
    omega
  have e1 : Value.agg (bytes4 S) = .agg (((Fx.four S).map fun c => UInt8.ofNat c.toNat).map cell).toArray := by
    rw [hb _ h4, ← bytes4_four hS]
  have e2 : Value.agg #[.int .u8 b0, .int .u8 b1, .int .u8 b2, .int .u8 b3] = .agg ((([b0, b1, b2, b3] : List Int).map fun c => UInt8.ofNat c.toNat).map cell).toArray := by
    rw [hb _ h]
    rfl
  rw [e1, e2]
  obtain ⟨i0, hi, hz0, hz1, hz2⟩ := info_parts infoU8
  have := run_equalIn_bytes (P := Try.prog) w d 51 5 4 Try.underlying51 Try.underlying5 (fun w => by simp [Go.sizeOf, typeInfo, hi, hz1]) ((Fx.four S).map fun c => UInt8.ofNat c.toNat) (([b0, b1, b2, b3] : List Int).map fun c => UInt8.ofNat c.toNat) (by simp [Fx.four]) (by simp)
  rw [hN, this]
  refine congrArg (fun b => Result.ok b w) ?_
  rw [Bool.eq_iff_iff]
  simp only [beq_iff_eq, decide_eq_true_eq]
  constructor
  · intro e
    have inj : ∀ (l m : List Int), Byte8 l → Byte8 m → (l.map fun c => UInt8.ofNat c.toNat) = (m.map fun c => UInt8.ofNat c.toNat) → l = m := by
      intro l m hl hm e
      have := congrArg (List.map cell) e
      rw [hb l hl, hb m hm] at this
      have := congrArg (List.map fun v => match v with | Value.int _ x => x | _ => 0) this
      simpa [List.map_map, Function.comp_def] using this
    exact (inj _ _ h4 h e).symm
  · intro e
    rw [e]
theorem lenOf_bound (b : List Int) (h8 : Byte8 b) : (lenOf b).2.2 = 0 → (lenOf b).1 ≤ 2097152 ∧ (lenOf b).2.1 ≤ b.length ∧ (lenOf b).2.1 ≤ 10 := by
  intro h
  unfold lenOf at h ⊢
  by_cases h1 : (Nx.go (b.take 10) 0 0).2.2 = 8
  · rw [if_pos h1] at h
    cases h
  · rw [if_neg h1] at h ⊢
    by_cases h2 : (Nx.go (b.take 10) 0 0).2.2 ≠ 0 ∨ 2097152 < (Nx.go (b.take 10) 0 0).1
    · rw [if_pos h2] at h
      cases h
    · rw [if_neg h2]
      have h3 := Nx.go_shape (b.take 10) 0 0 (by omega) (by decide) (h8.take 10)
      have hl := List.length_take (i := 10) (l := b)
      rcases h3 with h3 | h3
      · have := h3.2.2.1
        simp only
        omega
      · exfalso
        rcases h3.1 with h4 | h4
        · exact h2 (.inl (by rw [h4]; decide))
        · exact h1 h4

set_option maxRecDepth 100000 in
set_option maxHeartbeats 400000 in
theorem Next_any (b : List Int) (A : Option Addr) (cap : Nat) (w : World) (hb : Rd w .u8 A b) (h8 : Byte8 b) (hcap : b.length ≤ cap) (hcm : cap ≤ maxLen) (hl : b.length ≤ 10000000) :
    Calls Try.prog 16 #[.slice A b.length cap] w (NextPost b w) := by
  unfold maxLen at hcm
  unfold NextPost nextP
  have kL := lengthOf_any b A cap w hb h8 hcap (by omega)
  unfold LenPost at kL
  have hbd := lenOf_bound b h8
  generalize lenOf b = R at kL hbd ⊢
  obtain ⟨n, t, err⟩ := R
  simp only at kL hbd ⊢
  have KL := Lib.hid kL
  clear kL
  by_cases he : err = 0
  · subst he
    obtain ⟨hn, ht, ht10⟩ := hbd rfl
    have hif : ¬ ((0 : Int) ≠ 0) := by decide
    rw [if_neg hif]
    clear hif hbd
    by_cases hend : b.length < t + 4 + n
    · rw [if_pos hend]
      have hd : decide ((b.length : Int) < (t : Int) + 4 + (n : Int)) = true := by simp; omega
      clear hend
      go_enter Try.func16, Try.ntmps16
      go_wp2_with fail
      refine KL.out.mono ?_
      rintro e w1 ⟨rfl, hb1⟩
      go_wp2
      go_ret3
      exact ⟨hb1, rfl⟩
    · rw [if_neg hend]
      have hd : decide ((b.length : Int) < (t : Int) + 4 + (n : Int)) = false := by simp; omega
      have q1 : (0 : Int) ≤ (t : Int) + 4 := by omega
      have q2 : (t : Int) + 4 ≤ (t : Int) + 4 + (n : Int) := by omega
      have q3 : (t : Int) + 4 + (n : Int) ≤ (cap : Int) := by omega
      have q4 : (0 : Int) ≤ (t : Int) := by omega
      have q5 : (t : Int) ≤ (t : Int) + 4 := by omega
      have q6 : (t : Int) + 4 ≤ (cap : Int) := by omega
      rcases hb with rfl | ⟨bb, off, rfl, hbb, hc⟩
      · simp at hend
      have hct : ¬ cap = t := by omega
      obtain ⟨D, hD⟩ : ∃ D, (b.drop (t + 4)).take n = D := ⟨_, rfl⟩
      have hDl : D.length = n := by rw [← hD, List.length_take, List.length_drop]; omega
      have hD8 : Byte8 D := by rw [← hD]; exact (h8.drop _).take _
      have hDc : ∀ i, i < n → w.cell? ⟨bb, off + (t + 4) + i, none⟩ = some (.int .u8 (D[i]?.getD 0)) := by
        intro i hi
        rw [Nat.add_assoc, hc (t + 4 + i) (by omega), ← hD, List.getElem?_take, if_pos hi, List.getElem?_drop]
      have hFc : ∀ i, i < 4 → w.cell? ⟨bb, off + t + i, none⟩ = some (.int .u8 (b[t + i]?.getD 0)) := by
        intro i hi
        rw [Nat.add_assoc, hc (t + i) (by omega)]
      have hF4 : (b.drop t).take 4 = [b[t]?.getD 0, b[t + 1]?.getD 0, b[t + 2]?.getD 0, b[t + 3]?.getD 0] := by
        apply List.ext_getElem?
        intro i
        rw [List.getElem?_take]
        by_cases hi : i < 4
        · rw [if_pos hi, List.getElem?_drop]
          have key : ∀ k, t + k < b.length → b[t + k]? = some (b[t + k]?.getD 0) := fun k hk => by rw [List.getElem?_eq_getElem hk]; rfl
          match i, hi with
          | 0, _ => exact key 0 (by omega)
          | 1, _ => exact key 1 (by omega)
          | 2, _ => exact key 2 (by omega)
          | 3, _ => exact key 3 (by omega)
        · rw [if_neg hi, List.getElem?_eq_none (by simp; omega)]
      rw [hD, hF4]
      obtain ⟨S, hS⟩ : ∃ S, Fx.sum D = S := ⟨_, rfl⟩
      have hSl : S < 4294967296 := by rw [← hS]; exact Fx.sum_lt D
      rw [hS]
      have hx0 := hFc 0 (by omega)
      have hx1 := hFc 1 (by omega)
      have hx2 := hFc 2 (by omega)
      have hx3 := hFc 3 (by omega)
      rw [Nat.add_zero, Nat.add_zero] at hx0
      obtain ⟨b0, hb0⟩ : ∃ x, b[t]?.getD 0 = x := ⟨_, rfl⟩
      obtain ⟨b1, hb1⟩ : ∃ x, b[t + 1]?.getD 0 = x := ⟨_, rfl⟩
      obtain ⟨b2, hb2⟩ : ∃ x, b[t + 2]?.getD 0 = x := ⟨_, rfl⟩
      obtain ⟨b3, hb3⟩ : ∃ x, b[t + 3]?.getD 0 = x := ⟨_, rfl⟩
      rw [hb0] at hx0
      rw [hb1] at hx1
      rw [hb2] at hx2
      rw [hb3] at hx3
      rw [hb0, hb1, hb2, hb3]
      have h48 : Byte8 [b0, b1, b2, b3] := by
        rw [← hb0, ← hb1, ← hb2, ← hb3, ← hF4]
        exact (h8.drop _).take _
      have hE4 := fun (w : World) => eq4N 10000 9998 rfl S hSl b0 b1 b2 b3 h48 w
      clear hb0 hb1 hb2 hb3 hF4 hFc hc hD h48
      have HDC := Lib.hid hDc
      have HS := Lib.hid hS
      clear hDc hS
      by_cases h4 : [b0, b1, b2, b3] = Fx.four S
      · rw [if_pos h4]
        have hdec : decide ([b0, b1, b2, b3] = Fx.four S) = true := by simpa using h4
        rw [hdec] at hE4
        clear h4 hdec
        go_enter Try.func16, Try.ntmps16
        go_wp2_with fail
        refine KL.out.mono ?_
        rintro e w1 ⟨rfl, hb1⟩
        have y0 := (hb1.cell (p := ⟨bb, off + t, none⟩) hbb).trans hx0
        have y1 := (hb1.cell (p := ⟨bb, off + t + 1, none⟩) hbb).trans hx1
        have y2 := (hb1.cell (p := ⟨bb, off + t + 2, none⟩) hbb).trans hx2
        have y3 := (hb1.cell (p := ⟨bb, off + t + 3, none⟩) hbb).trans hx3
        have hrdD : Rd w1 .u8 (some ⟨bb, off + (t + 4), none⟩) D := .inr ⟨bb, off + (t + 4), rfl, Nat.lt_of_lt_of_le hbb hb1.size, fun i hi => (hb1.cell (p := ⟨bb, off + (t + 4) + i, none⟩) hbb).trans (HDC.out i (by omega))⟩
        have hrd0 : cap = t + 4 → D = [] := fun e => List.eq_nil_of_length_eq_zero (by omega)
        have hbd1 : bb < w1.heap.size := Nat.lt_of_lt_of_le hbb hb1.size
        clear hx0 hx1 hx2 hx3
        have hAP := fun (w : World) (c : Nat) => run_arrayAt (P := Try.prog) (w := w) 51 5 4 (some ⟨bb, off + t, none⟩) (((t : Int) + 4).toNat - t) c Try.underlying51 (by omega)
        subst hDl
        by_cases hce : cap = t + 4
        · obtain rfl := hrd0 hce
          subst hce
          go_wp2_with fail
          go_region_held3 (fun w' => w'.cell? ⟨bb, off + t, none⟩ = some (.int .u8 b0) ∧ w'.cell? ⟨bb, off + t + 1, none⟩ = some (.int .u8 b1) ∧ w'.cell? ⟨bb, off + t + 2, none⟩ = some (.int .u8 b2) ∧ w'.cell? ⟨bb, off + t + 3, none⟩ = some (.int .u8 b3))
            (first | exact ⟨y0, y1, y2, y3⟩ | exact ⟨z0, z1, z2, z3⟩)
            (first
              | (go_at_call 20; refine (Sum_any [] (some ⟨bb, off, none⟩) 0 w1.drew (.inl rfl) hD8 (by omega)).mono ?_; rw [HS.out]; rintro e w2 ⟨rfl, rfl⟩)
              | (go_at_call 19; refine (placed_any S hSl _).mono ?_; rintro e w2 ⟨rfl, hb2⟩; have z0 := (hb2.cell (p := ⟨bb, off + t, none⟩) hbd1).trans y0; have z1 := (hb2.cell (p := ⟨bb, off + t + 1, none⟩) hbd1).trans y1; have z2 := (hb2.cell (p := ⟨bb, off + t + 2, none⟩) hbd1).trans y2; have z3 := (hb2.cell (p := ⟨bb, off + t + 3, none⟩) hbd1).trans y3)
              | fail)
          all_goals
            go_wp2_with fail
            refine (Any.bytes_Clone_at Try.bclone15 ⟨bb, off, none⟩ 0 0 [] w2 rfl (by omega) (fun i hi => by omega)).mono ?_
            rintro e w3 ⟨v3, rfl, hown3, _, hb3⟩
            have hB3 := thn (thn hb1 (thn (Below.refl _ w1).drew hb2)) hb3
            have hown : w3.ownsRow w.heap.size 5 1 v3 0 ([].map (Value.int .u8)) := own_base hown3 (Nat.le_trans hb1.size hb2.size)
            clear hown3
            go_wp2
            go_ret3
            exact ⟨hB3, v3, rfl, hown⟩
        · go_wp2_with fail
          go_region_held3 (fun w' => w'.cell? ⟨bb, off + t, none⟩ = some (.int .u8 b0) ∧ w'.cell? ⟨bb, off + t + 1, none⟩ = some (.int .u8 b1) ∧ w'.cell? ⟨bb, off + t + 2, none⟩ = some (.int .u8 b2) ∧ w'.cell? ⟨bb, off + t + 3, none⟩ = some (.int .u8 b3))
            (first | exact ⟨y0, y1, y2, y3⟩ | exact ⟨z0, z1, z2, z3⟩)
            (first
              | (go_at_call 20; refine (Sum_any D (some ⟨bb, off + (t + 4), none⟩) (cap - (t + 4)) w1.drew (hrdD.below (Below.refl _ _).drew) hD8 (by omega)).mono ?_; rw [HS.out]; rintro e w2 ⟨rfl, rfl⟩)
              | (go_at_call 19; refine (placed_any S hSl _).mono ?_; rintro e w2 ⟨rfl, hb2⟩; have z0 := (hb2.cell (p := ⟨bb, off + t, none⟩) hbd1).trans y0; have z1 := (hb2.cell (p := ⟨bb, off + t + 1, none⟩) hbd1).trans y1; have z2 := (hb2.cell (p := ⟨bb, off + t + 2, none⟩) hbd1).trans y2; have z3 := (hb2.cell (p := ⟨bb, off + t + 3, none⟩) hbd1).trans y3)
              | fail)
          all_goals
            have hD2 : Rd w2 .u8 (some ⟨bb, off + (t + 4), none⟩) D := hrdD.below (thn (Below.refl _ w1).drew hb2)
            go_wp2_with fail
            refine (Any.bytes_Clone_at Try.bclone15 ⟨bb, off + (t + 4), none⟩ D.length (cap - (t + 4)) D w2 rfl (by omega) (fun i hi => hD2.add i _ (by rw [List.getElem?_map, List.getElem?_eq_getElem hi]; simp [hi]))).mono ?_
            rintro e w3 ⟨v3, rfl, hown3, _, hb3⟩
            have hB3 := thn (thn hb1 (thn (Below.refl _ w1).drew hb2)) hb3
            have hown : w3.ownsRow w.heap.size 5 1 v3 D.length (D.map (Value.int .u8)) := own_base hown3 (Nat.le_trans hb1.size hb2.size)
            clear hown3
            go_wp2
            go_ret3
            exact ⟨hB3, v3, rfl, hown⟩
      · rw [if_neg h4]
        have hdec : decide ([b0, b1, b2, b3] = Fx.four S) = false := by simpa using h4
        rw [hdec] at hE4
        clear h4 hdec
        go_enter Try.func16, Try.ntmps16
        go_wp2_with fail
        refine KL.out.mono ?_
        rintro e w1 ⟨rfl, hb1⟩
        have y0 := (hb1.cell (p := ⟨bb, off + t, none⟩) hbb).trans hx0
        have y1 := (hb1.cell (p := ⟨bb, off + t + 1, none⟩) hbb).trans hx1
        have y2 := (hb1.cell (p := ⟨bb, off + t + 2, none⟩) hbb).trans hx2
        have y3 := (hb1.cell (p := ⟨bb, off + t + 3, none⟩) hbb).trans hx3
        have hrdD : Rd w1 .u8 (some ⟨bb, off + (t + 4), none⟩) D := .inr ⟨bb, off + (t + 4), rfl, Nat.lt_of_lt_of_le hbb hb1.size, fun i hi => (hb1.cell (p := ⟨bb, off + (t + 4) + i, none⟩) hbb).trans (HDC.out i (by omega))⟩
        have hrd0 : cap = t + 4 → D = [] := fun e => List.eq_nil_of_length_eq_zero (by omega)
        have hbd1 : bb < w1.heap.size := Nat.lt_of_lt_of_le hbb hb1.size
        clear hx0 hx1 hx2 hx3
        have hAP := fun (w : World) (c : Nat) => run_arrayAt (P := Try.prog) (w := w) 51 5 4 (some ⟨bb, off + t, none⟩) (((t : Int) + 4).toNat - t) c Try.underlying51 (by omega)
        subst hDl
        by_cases hce : cap = t + 4
        · obtain rfl := hrd0 hce
          subst hce
          go_wp2_with fail
          go_region_held3 (fun w' => w'.cell? ⟨bb, off + t, none⟩ = some (.int .u8 b0) ∧ w'.cell? ⟨bb, off + t + 1, none⟩ = some (.int .u8 b1) ∧ w'.cell? ⟨bb, off + t + 2, none⟩ = some (.int .u8 b2) ∧ w'.cell? ⟨bb, off + t + 3, none⟩ = some (.int .u8 b3))
            (first | exact ⟨y0, y1, y2, y3⟩ | exact ⟨z0, z1, z2, z3⟩)
            (first
              | (go_at_call 20; refine (Sum_any [] (some ⟨bb, off, none⟩) 0 w1.drew (.inl rfl) hD8 (by omega)).mono ?_; rw [HS.out]; rintro e w2 ⟨rfl, rfl⟩)
              | (go_at_call 19; refine (placed_any S hSl _).mono ?_; rintro e w2 ⟨rfl, hb2⟩; have z0 := (hb2.cell (p := ⟨bb, off + t, none⟩) hbd1).trans y0; have z1 := (hb2.cell (p := ⟨bb, off + t + 1, none⟩) hbd1).trans y1; have z2 := (hb2.cell (p := ⟨bb, off + t + 2, none⟩) hbd1).trans y2; have z3 := (hb2.cell (p := ⟨bb, off + t + 3, none⟩) hbd1).trans y3)
              | fail)
          all_goals
            go_wp2
            go_ret3
            exact ⟨thn hb1 (thn (Below.refl _ w1).drew hb2), rfl⟩
        · go_wp2_with fail
          go_region_held3 (fun w' => w'.cell? ⟨bb, off + t, none⟩ = some (.int .u8 b0) ∧ w'.cell? ⟨bb, off + t + 1, none⟩ = some (.int .u8 b1) ∧ w'.cell? ⟨bb, off + t + 2, none⟩ = some (.int .u8 b2) ∧ w'.cell? ⟨bb, off + t + 3, none⟩ = some (.int .u8 b3))
            (first | exact ⟨y0, y1, y2, y3⟩ | exact ⟨z0, z1, z2, z3⟩)
            (first
              | (go_at_call 20; refine (Sum_any D (some ⟨bb, off + (t + 4), none⟩) (cap - (t + 4)) w1.drew (hrdD.below (Below.refl _ _).drew) hD8 (by omega)).mono ?_; rw [HS.out]; rintro e w2 ⟨rfl, rfl⟩)
              | (go_at_call 19; refine (placed_any S hSl _).mono ?_; rintro e w2 ⟨rfl, hb2⟩; have z0 := (hb2.cell (p := ⟨bb, off + t, none⟩) hbd1).trans y0; have z1 := (hb2.cell (p := ⟨bb, off + t + 1, none⟩) hbd1).trans y1; have z2 := (hb2.cell (p := ⟨bb, off + t + 2, none⟩) hbd1).trans y2; have z3 := (hb2.cell (p := ⟨bb, off + t + 3, none⟩) hbd1).trans y3)
              | fail)
          all_goals
            go_wp2
            go_ret3
            exact ⟨thn hb1 (thn (Below.refl _ w1).drew hb2), rfl⟩
  · rw [if_pos he]
    have hd : (err != 0) = true := by simpa using he
    clear he
    go_enter Try.func16, Try.ntmps16
    go_wp2_with fail
    refine KL.out.mono ?_
    rintro e w1 ⟨rfl, hb1⟩
    go_wp2
    go_ret3
    exact ⟨hb1, rfl⟩

end Go.Proofs.Ytanbbomdidefjaa
