/- The law NumApart, walked. -/
import Derived.Test.YtfjbelkpblgfiaaNh
import Derived.Deep.QuietTactic
import Derived.BigQuiet
namespace Go.Proofs.Ytfjbelkpblgfiaa
open Go.RowKit

theorem Rd.take' {w : World} {k : IntKind} {A : Option Addr} {xs : List Int} (h : Rd w k A xs) (n : Nat) : Rd w k A (xs.take n) := by
  rcases h with rfl | ⟨b, off, hA, hb, hc⟩
  · left; simp
  · refine .inr ⟨b, off, hA, hb, fun i hi => ?_⟩
    rw [List.length_take] at hi
    rw [hc i (by omega), List.getElem?_take, if_pos (by omega)]

def beginsB (x y : List Int) : Bool := decide (x <+: y)

set_option maxHeartbeats 400000 in
theorem begins_any (x y : List Int) (A B : Nat) (o p c d : Nat) (w : World) (hx : Rd w .u8 (some ⟨A, o, none⟩) x) (hy : Rd w .u8 (some ⟨B, p, none⟩) y) (hxl : x.length ≤ 1000000) (hd : y.length ≤ d) (hxr : ∀ z ∈ x, 0 ≤ z ∧ z ≤ 255) (hyr : ∀ z ∈ y, 0 ≤ z ∧ z ≤ 255) :
    Calls Try.prog 22 #[.slice (some ⟨A, o, none⟩) x.length c, .slice (some ⟨B, p, none⟩) y.length d] w fun e w' => e = .returned (.bool (beginsB x y)) ∧ ∃ n, w' = w.drewN n := by
  by_cases hl : x.length ≤ y.length
  · have hcx := fun n => conv_any (P := Try.prog) (u := 9) (cap := c) (w := w.drewN n) Try.underlying25 Try.underlying5 Try.underlying9 (hx.below (below_drewN (Below.refl _ _) n))
    have hty : (y.take x.length).length = x.length := by simp; omega
    have hcy := fun n => conv_any (P := Try.prog) (u := 9) (cap := d) (w := w.drewN n) (b := y.take x.length) Try.underlying25 Try.underlying5 Try.underlying9 ((hy.take' x.length).below (below_drewN (Below.refl _ _) n))
    rw [hty] at hcy
    have hl' : decide ((x.length : Int) ≤ (y.length : Int)) = true := by simp; omega
    have hxd : (x.length : Int) ≤ (d : Int) := by omega
    have hx0 : (0 : Int) ≤ (x.length : Int) := by omega
    have hbb : beginsB x y = ((strOfNums (y.take x.length)).toList == (strOfNums x).toList) := by
      unfold beginsB
      rw [Bool.eq_iff_iff, decide_eq_true_eq, beq_iff_eq, ByteArray.toList_eq, ByteArray.toList_eq, Array.toList_inj, List.prefix_iff_eq_take]
      constructor
      · intro h; rw [← h]
      · intro h; exact str_inj hxr (fun z hz => hyr z (List.mem_of_mem_take hz)) (ByteArray.ext h.symm)
    have HB := Lib.hid hbb
    clear hx hy hty hbb
    go_enter Try.func22, Try.ntmps22
    go_wp2
    go_quiet (fail)
    go_wp2
    go_ret
    refine ⟨?_, _, rfl⟩
    rw [HB.out]
    rfl
  · have hl' : decide ((x.length : Int) ≤ (y.length : Int)) = false := by simp; omega
    have hb : beginsB x y = false := by
      unfold beginsB
      rw [decide_eq_false_iff_not]
      intro h
      exact hl h.length_le
    rw [hb]
    clear hx hy hb
    go_enter Try.func22, Try.ntmps22
    go_wp2
    go_quiet (fail)
    go_wp2
    go_ret
    exact ⟨rfl, _, rfl⟩

theorem toList_beq (s t : ByteArray) : (s.toList == t.toList) = decide (s = t) := by
  rw [Bool.eq_iff_iff, beq_iff_eq, decide_eq_true_eq, ByteArray.toList_eq, ByteArray.toList_eq]
  constructor
  · intro h
    exact ByteArray.ext (Array.toList_inj.1 h)
  · rintro rfl; rfl
theorem bs_eq_iff (s t : ByteArray) : bs s = bs t ↔ s = t := ⟨bs_inj, fun h => by rw [h]⟩

set_option maxHeartbeats 400000 in
theorem apart_any (a b : Nat) (s t : ByteArray) (w : World) (ha : a < 18446744073709551616) (hb : b < 18446744073709551616) (hs : s.size ≤ 200) (ht : t.size ≤ 200) (q1 q2 : Bool) (h1 : ((a : Int) == (b : Int)) = q1) (h2 : (s.toList == t.toList) = q2) :
    Calls Try.prog 6 #[.int .u64 a, .int .u64 b, .string s, .string t] w fun e w' => e = .returned (.bool true) ∧ Below w.heap.size w w' := by
  have HA := Lib.hid ha
  have HB := Lib.hid hb
  have hq1 : beginsB ([] ++ Nx.put a) ([] ++ Nx.put b) = q1 := by
    unfold beginsB
    rw [← h1, Bool.eq_iff_iff, decide_eq_true_eq, beq_iff_eq, List.nil_append, List.nil_append, Nx.put_begins ha hb]
    omega
  have hq2 : beginsB ([] ++ (Nx.put s.size ++ bs s)) ([] ++ (Nx.put t.size ++ bs t)) = q2 := by
    unfold beginsB
    rw [← h2, toList_beq, Bool.eq_iff_iff, decide_eq_true_eq, decide_eq_true_eq, List.nil_append, List.nil_append, ← bs_len s, ← bs_len t, Nx.text_begins (by rw [bs_len]; omega) (by rw [bs_len]; omega), bs_eq_iff]
  have HQ1 := Lib.hid hq1
  have HQ2 := Lib.hid hq2
  have l1 : ([] ++ Nx.put a).length ≤ 10 := by simpa using Nx.put_len a ha
  have l2 : ([] ++ Nx.put b).length ≤ 10 := by simpa using Nx.put_len b hb
  have l3 : ([] ++ (Nx.put s.size ++ bs s)).length ≤ 1000 := by have := Nx.put_len s.size (by omega); simp [bs_len]; omega
  have l4 : ([] ++ (Nx.put t.size ++ bs t)).length ≤ 1000 := by have := Nx.put_len t.size (by omega); simp [bs_len]; omega
  have p1 : 0 < ([] ++ Nx.put a).length := by have := Nx.put_pos a; rw [List.nil_append]; omega
  have p2 : 0 < ([] ++ Nx.put b).length := by have := Nx.put_pos b; rw [List.nil_append]; omega
  have p3 : 0 < ([] ++ (Nx.put s.size ++ bs s)).length := by have := Nx.put_pos s.size; simp; omega
  have p4 : 0 < ([] ++ (Nx.put t.size ++ bs t)).length := by have := Nx.put_pos t.size; simp; omega
  obtain ⟨X, hX⟩ : ∃ X, [] ++ Nx.put a = X := ⟨_, rfl⟩
  obtain ⟨Y, hY⟩ : ∃ X, [] ++ Nx.put b = X := ⟨_, rfl⟩
  obtain ⟨P, hP⟩ : ∃ X, [] ++ (Nx.put s.size ++ bs s) = X := ⟨_, rfl⟩
  obtain ⟨Q, hQ⟩ : ∃ X, [] ++ (Nx.put t.size ++ bs t) = X := ⟨_, rfl⟩
  have HX := Lib.hid hX
  have HY := Lib.hid hY
  have HP := Lib.hid hP
  have HQ := Lib.hid hQ
  have hr1 : ∀ z ∈ X, 0 ≤ z ∧ z ≤ 255 := by rw [← hX]; simpa using Nx.put_rng a
  have hr2 : ∀ z ∈ Y, 0 ≤ z ∧ z ≤ 255 := by rw [← hY]; simpa using Nx.put_rng b
  have hr3 : ∀ z ∈ P, 0 ≤ z ∧ z ≤ 255 := by
    rw [← hP]
    intro z hz
    rcases List.mem_append.1 (show z ∈ Nx.put s.size ++ bs s by simpa using hz) with h | h
    · exact Nx.put_rng _ z h
    · exact bs_rng s z h
  have hr4 : ∀ z ∈ Q, 0 ≤ z ∧ z ≤ 255 := by
    rw [← hQ]
    intro z hz
    rcases List.mem_append.1 (show z ∈ Nx.put t.size ++ bs t by simpa using hz) with h | h
    · exact Nx.put_rng _ z h
    · exact bs_rng t z h
  have HXr := Lib.hid hr1
  have HYr := Lib.hid hr2
  have HPr := Lib.hid hr3
  have HQr := Lib.hid hr4
  clear hr1 hr2 hr3 hr4
  rw [hX, hY] at HQ1
  rw [hP, hQ] at HQ2
  rw [hX] at l1 p1
  rw [hY] at l2 p2
  rw [hP] at l3 p3
  rw [hQ] at l4 p4
  clear hq1 hq2 ha hb hX hY hP hQ
  go_enter Try.func6, Try.ntmps6
  go_wp2_with fail
  refine (head3_any _).mono ?_
  rintro e w1 ⟨rfl, hb1⟩
  go_wp2_with fail
  refine (Put_any [] none 0 a _ (.inl rfl) (fun _ => rfl) (by simp) HA.out).mono ?_
  rintro e w2 ⟨v2, rfl, hown2, hb2⟩
  rw [HX.out] at hown2
  obtain ⟨A2, c2, rfl, _, _, _, hrd2⟩ := Rd.own hown2
  obtain ⟨bA, oA, rfl, _, _⟩ := hrd2.pos p1
  clear hown2
  go_wp2_with fail
  refine (Put_any [] none 0 b _ (.inl rfl) (fun _ => rfl) (by simp) HB.out).mono ?_
  rintro e w3 ⟨v3, rfl, hown3, hb3⟩
  rw [HY.out] at hown3
  obtain ⟨A3, c3, rfl, _, hc3, _, hrd3⟩ := Rd.own hown3
  obtain ⟨bB, oB, rfl, _, _⟩ := hrd3.pos p2
  clear hown3
  have hrd23 := hrd2.below hb3
  go_wp2_with fail
  refine (Text_any [] none 0 s _ (.inl rfl) (fun _ => rfl) (by simp) (by omega)).mono ?_
  rintro e w4 ⟨v4, rfl, hown4, hb4⟩
  rw [HP.out] at hown4
  obtain ⟨A4, c4, rfl, _, _, _, hrd4⟩ := Rd.own hown4
  obtain ⟨bP, oP, rfl, _, _⟩ := hrd4.pos p3
  clear hown4
  have hrd24 := hrd23.below hb4
  have hrd34 := hrd3.below hb4
  go_wp2_with fail
  refine (Text_any [] none 0 t _ (.inl rfl) (fun _ => rfl) (by simp) (by omega)).mono ?_
  rintro e w5 ⟨v5, rfl, hown5, hb5⟩
  rw [HQ.out] at hown5
  obtain ⟨A5, c5, rfl, _, hc5, _, hrd5⟩ := Rd.own hown5
  obtain ⟨bQ, oQ, rfl, _, _⟩ := hrd5.pos p4
  clear hown5
  have hrd25 := hrd24.below hb5
  have hrd35 := hrd34.below hb5
  have hrd45 := hrd4.below hb5
  have hB2 : Below w.heap.size w w2 := hb1.trans (hb2.mono hb1.size)
  have hB3 : Below w.heap.size w w3 := hB2.trans (hb3.mono hB2.size)
  have hB4 : Below w.heap.size w w4 := hB3.trans (hb4.mono hB3.size)
  have hB5 : Below w.heap.size w w5 := hB4.trans (hb5.mono hB4.size)
  go_wp2_with fail
  refine (begins_any X Y bA bB oA oB c2 c3 _ hrd25 hrd35 (by omega) hc3 HXr.out HYr.out).mono ?_
  rw [HQ1.out]
  rintro e w6 ⟨rfl, n6, rfl⟩
  cases q1
  all_goals
    go_wp2_with fail
    refine (begins_any P Q bP bQ oP oQ c4 c5 _ (hrd45.below (below_drewN (Below.refl _ _) n6)) (hrd5.below (below_drewN (Below.refl _ _) n6)) (by omega) hc5 HPr.out HQr.out).mono ?_
    rw [HQ2.out]
    rintro e w7 ⟨rfl, n7, rfl⟩
    cases q2
    all_goals
      go_wp2
      go_ret
      exact ⟨rfl, below_drewN hB5 _⟩
set_option maxHeartbeats 400000 in
theorem apart_long (a b : Int) (s t : ByteArray) (w : World) (hs : s.size ≤ maxLen) (ht : t.size ≤ maxLen) (h : 200 < s.size ∨ 200 < t.size) :
    Calls Try.prog 6 #[.int .u64 a, .int .u64 b, .string s, .string t] w fun e w' => e = .returned (.bool true) ∧ Below w.heap.size w w' := by
  unfold maxLen at hs ht
  by_cases h1 : 200 < s.size
  · go_enter Try.func6, Try.ntmps6
    go_wp2_with (go_at_call 12; refine (head3_any _).mono ?_; rintro e w1 ⟨rfl, hb1⟩)
    go_ret
    exact ⟨rfl, hb1⟩
  · have h2 : 200 < t.size := by omega
    go_enter Try.func6, Try.ntmps6
    go_wp2_with (go_at_call 12; refine (head3_any _).mono ?_; rintro e w1 ⟨rfl, hb1⟩)
    go_ret
    exact ⟨rfl, hb1⟩

end Go.Proofs.Ytfjbelkpblgfiaa
