/- The law NumTexts, walked. -/
import Derived.Test.YtfjbelkpblgfiaaNh
namespace Go.Proofs.Ytfjbelkpblgfiaa
open Go.RowKit

set_option maxHeartbeats 400000 in
theorem texts_long (b : List Int) (A : Option Addr) (cap : Nat) (most : Int) (w : World) (hl : 300 < b.length) (hcap : b.length ≤ maxLen) :
    Calls Try.prog 4 #[.slice A b.length cap, .int .i64 most] w fun e w' => e = .returned (.bool true) ∧ Below w.heap.size w w' := by
  unfold maxLen at hcap
  go_enter Try.func4, Try.ntmps4
  go_wp2_with (go_at_call 12; refine (head3_any _).mono ?_; rintro e w1 ⟨rfl, hb1⟩)
  go_ret
  exact ⟨rfl, hb1⟩

/-- behind a turn of a new block all old ones are as they were -/
theorem below_turn {w w1 w2 : World} {g : Nat} (hB : Below w.heap.size w w1) (hg : w1.grownBy w2 (some g)) (hlt : w.heap.size ≤ g) : Below w.heap.size w w2 :=
  hB.grown hg hB.size (fun k e => by cases e; exact hlt)

set_option maxRecDepth 100000 in
set_option maxHeartbeats 400000 in
theorem texts_err (b : List Int) (A : Option Addr) (cap : Nat) (most : Int) (m : Nat) (w : World) (hr : Rd w .u8 A b) (hl : b.length ≤ 300) (hm : most ≤ 9223372036854775807) (hmm : m = most.toNat)
    (r : ByteArray) (n : Nat) (err : Int) (ht : textS (strOfNums b) m = (none8, r, err)) (hn : numS (strOfNums b) m = (n, r, err)) (he : (err != 0) = true) :
    Calls Try.prog 4 #[.slice A b.length cap, .int .i64 most] w fun e w' => e = .returned (.bool true) ∧ Below w.heap.size w w' := by
  have hsz : (strOfNums b).size ≤ 1000000 := by rw [strOfNums_size]; omega
  have HT : Hid (∀ g w, Rdr w g (strOfNums b) 0 → Calls Try.prog 18 #[.pointer (some ⟨g, 0, none⟩), .int .i64 most] w (Turned w g (.string none8) r err)) := Lib.hid fun g w h => by
    have := Text_any' g _ most m w h hsz hm hmm
    rw [ht] at this
    exact this
  have HN : Hid (∀ g w, Rdr w g (strOfNums b) 0 → Calls Try.prog 17 #[.pointer (some ⟨g, 0, none⟩), .int .u64 (max most 0)] w (Turned w g (.int .u64 n) r err)) := Lib.hid fun g w h => by
    have := Num_any g _ m w h hsz
    rw [hn] at this
    rw [show max most 0 = (m : Int) by omega]
    exact this
  clear ht hn hsz
  have tb : (err == err) = true := by simp
  have t8 : none8.toList.isEmpty = true := by rw [ByteArray.toList_eq]; rfl
  go_enter Try.func4, Try.ntmps4
  go_wp2_with (go_at_call 12; refine (head3_any _).mono ?_; rintro e w1 ⟨rfl, hb1⟩)
  refine (Read_any b A _ cap _ (hr.below hb1) rfl).mono ?_
  rintro e w2 ⟨g, rfl, hr2, hlt2, hb2⟩
  have hB2 := hb1.trans (hb2.mono hb1.size)
  go_wp2_with fail
  refine (HT.out g _ hr2).mono ?_
  rintro e w3 ⟨rfl, hr3, hg3⟩
  have hB3 := below_turn hB2 hg3 (Nat.le_trans hb1.size hlt2)
  go_wp2_with fail
  refine (Read_any b A _ cap _ (hr.below hB3) rfl).mono ?_
  rintro e w4 ⟨g', rfl, hr4, hlt4, hb4⟩
  have hr4' := hr3.keep hb4
  have hB4 := hB3.trans (hb4.mono hB3.size)
  go_wp2_with fail
  refine (HN.out g' _ hr4).mono ?_
  rintro e w5 ⟨rfl, hr5, hg5⟩
  have hr5' := hr4'.grown hg5 (by have := hr3.lt; simp; omega)
  have hB5 := below_turn hB4 hg5 (Nat.le_trans hB3.size hlt4)
  go_wp2_with (first
    | (go_at_call_of 21 (Value.pointer (some ⟨g, 0, none⟩)); refine (Err_any g _ _ _ hr5').mono ?_; rintro e w' ⟨rfl, rfl⟩)
    | (go_at_call_of 21 (Value.pointer (some ⟨g', 0, none⟩)); refine (Err_any g' _ _ _ hr5).mono ?_; rintro e w' ⟨rfl, rfl⟩))
  go_ret
  exact ⟨rfl, hB5⟩

set_option maxRecDepth 100000 in
set_option maxHeartbeats 400000 in
theorem texts_short (b : List Int) (A : Option Addr) (cap : Nat) (most : Int) (m : Nat) (w : World) (hr : Rd w .u8 A b) (hl : b.length ≤ 300) (hm : most ≤ 9223372036854775807) (hmm : m = most.toNat)
    (r : ByteArray) (n : Nat) (ht : textS (strOfNums b) m = (none8, none8, 8)) (hn : numS (strOfNums b) m = (n, r, 0)) (hlt : r.size < n) (hrl : r.size ≤ b.length) :
    Calls Try.prog 4 #[.slice A b.length cap, .int .i64 most] w fun e w' => e = .returned (.bool true) ∧ Below w.heap.size w w' := by
  have hsz : (strOfNums b).size ≤ 1000000 := by rw [strOfNums_size]; omega
  have HT : Hid (∀ g w, Rdr w g (strOfNums b) 0 → Calls Try.prog 18 #[.pointer (some ⟨g, 0, none⟩), .int .i64 most] w (Turned w g (.string none8) none8 8)) := Lib.hid fun g w h => by
    have := Text_any' g _ most m w h hsz hm hmm
    rw [ht] at this
    exact this
  have HN : Hid (∀ g w, Rdr w g (strOfNums b) 0 → Calls Try.prog 17 #[.pointer (some ⟨g, 0, none⟩), .int .u64 (max most 0)] w (Turned w g (.int .u64 n) r 0)) := Lib.hid fun g w h => by
    have := Num_any g _ m w h hsz
    rw [hn] at this
    rw [show max most 0 = (m : Int) by omega]
    exact this
  clear ht hn hsz
  have t8 : none8.toList.isEmpty = true := by rw [ByteArray.toList_eq]; rfl
  go_enter Try.func4, Try.ntmps4
  go_wp2_with (go_at_call 12; refine (head3_any _).mono ?_; rintro e w1 ⟨rfl, hb1⟩)
  refine (Read_any b A _ cap _ (hr.below hb1) rfl).mono ?_
  rintro e w2 ⟨g, rfl, hr2, hlt2, hb2⟩
  have hB2 := hb1.trans (hb2.mono hb1.size)
  go_wp2_with fail
  refine (HT.out g _ hr2).mono ?_
  rintro e w3 ⟨rfl, hr3, hg3⟩
  have hB3 := below_turn hB2 hg3 (Nat.le_trans hb1.size hlt2)
  go_wp2_with fail
  refine (Read_any b A _ cap _ (hr.below hB3) rfl).mono ?_
  rintro e w4 ⟨g', rfl, hr4, hlt4, hb4⟩
  have hr4' := hr3.keep hb4
  have hB4 := hB3.trans (hb4.mono hB3.size)
  go_wp2_with fail
  refine (HN.out g' _ hr4).mono ?_
  rintro e w5 ⟨rfl, hr5, hg5⟩
  have hr5' := hr4'.grown hg5 (by have := hr3.lt; simp; omega)
  have hB5 := below_turn hB4 hg5 (Nat.le_trans hB3.size hlt4)
  go_wp2_with (first
    | (go_at_call_of 21 (Value.pointer (some ⟨g, 0, none⟩)); refine (Err_any g _ _ _ hr5').mono ?_; rintro e w' ⟨rfl, rfl⟩)
    | (go_at_call_of 21 (Value.pointer (some ⟨g', 0, none⟩)); refine (Err_any g' _ _ _ hr5).mono ?_; rintro e w' ⟨rfl, rfl⟩)
    | (go_at_call 20; refine (Left_any g' _ _ _ hr5).mono ?_; rintro e w' ⟨rfl, rfl⟩))
  go_ret
  exact ⟨rfl, hB5⟩

set_option maxRecDepth 100000 in
set_option maxHeartbeats 400000 in
theorem texts_ok (b : List Int) (A : Option Addr) (cap : Nat) (most : Int) (m : Nat) (w : World) (hr : Rd w .u8 A b) (hl : b.length ≤ 300) (hcap : b.length ≤ cap) (hm : most ≤ 9223372036854775807) (hmm : m = most.toNat)
    (r s r' : ByteArray) (n k : Nat) (ht : textS (strOfNums b) m = (s, r', 0)) (hn : numS (strOfNums b) m = (n, r, 0)) (hlt : n ≤ r.size) (hrl : r.size + k = b.length) (hk : 0 < k) (hs : s = strOfNums ((b.drop k).take n)) (hrr : r'.size + n = r.size) :
    Calls Try.prog 4 #[.slice A b.length cap, .int .i64 most] w fun e w' => e = .returned (.bool true) ∧ Below w.heap.size w w' := by
  have hsz : (strOfNums b).size ≤ 1000000 := by rw [strOfNums_size]; omega
  have HT : Hid (∀ g w, Rdr w g (strOfNums b) 0 → Calls Try.prog 18 #[.pointer (some ⟨g, 0, none⟩), .int .i64 most] w (Turned w g (.string s) r' 0)) := Lib.hid fun g w h => by
    have := Text_any' g _ most m w h hsz hm hmm
    rw [ht] at this
    exact this
  have HN : Hid (∀ g w, Rdr w g (strOfNums b) 0 → Calls Try.prog 17 #[.pointer (some ⟨g, 0, none⟩), .int .u64 (max most 0)] w (Turned w g (.int .u64 n) r 0)) := Lib.hid fun g w h => by
    have := Num_any g _ m w h hsz
    rw [hn] at this
    rw [show max most 0 = (m : Int) by omega]
    exact this
  have HS := Lib.hid hs
  clear ht hn hsz hs
  obtain ⟨bb, off, rfl, hbb, hcs⟩ := hr.pos (by omega)
  have t8 : none8.toList.isEmpty = true := by rw [ByteArray.toList_eq]; rfl
  go_enter Try.func4, Try.ntmps4
  go_wp2_with (go_at_call 12; refine (head3_any _).mono ?_; rintro e w1 ⟨rfl, hb1⟩)
  refine (Read_any b _ _ cap _ (hr.below hb1) rfl).mono ?_
  rintro e w2 ⟨g, rfl, hr2, hlt2, hb2⟩
  have hB2 := hb1.trans (hb2.mono hb1.size)
  go_wp2_with fail
  refine (HT.out g _ hr2).mono ?_
  rintro e w3 ⟨rfl, hr3, hg3⟩
  have hB3 := below_turn hB2 hg3 (Nat.le_trans hb1.size hlt2)
  go_wp2_with fail
  refine (Read_any b _ _ cap _ (hr.below hB3) rfl).mono ?_
  rintro e w4 ⟨g', rfl, hr4, hlt4, hb4⟩
  have hr4' := hr3.keep hb4
  have hB4 := hB3.trans (hb4.mono hB3.size)
  go_wp2_with fail
  refine (HN.out g' _ hr4).mono ?_
  rintro e w5 ⟨rfl, hr5, hg5⟩
  have hr5' := hr4'.grown hg5 (by have := hr3.lt; simp; omega)
  have hB5 := below_turn hB4 hg5 (Nat.le_trans hB3.size hlt4)
  have hat : (b.length : Int) - (r.size : Int) = (k : Int) := by omega
  have hcv : ∀ C, (convert 25 9 (.slice (some ⟨bb, off + k, none⟩) n C)).run Try.prog w5 = .ok (.string s) w5 := by
    intro C
    have hln : ((b.drop k).take n).length = n := by simp; omega
    have := conv_rd (P := Try.prog) (t := 25) (e := 5) (u := 9) (w := w5) (b := (b.drop k).take n) (bb := bb) (off := off + k) (cap := C) Try.underlying25 Try.underlying5 Try.underlying9 (fun i hi => by
      rw [hln] at hi
      rw [hB5.cell (p := ⟨bb, off + k + i, none⟩) hbb, Nat.add_assoc, hcs (k + i) (by omega)]
      simp [hi, List.getElem?_drop])
    rw [hln, ← HS.out] at this
    exact this
  have hc0 : ∀ C, n = 0 → (convert 25 9 (.slice (some ⟨bb, off, none⟩) n C)).run Try.prog w5 = .ok (.string s) w5 := by
    intro C h0
    rw [HS.out, h0]
    exact conv_rd (P := Try.prog) (t := 25) (e := 5) (u := 9) (w := w5) (b := []) (bb := bb) (off := off) (cap := C) Try.underlying25 Try.underlying5 Try.underlying9 (fun i hi => absurd hi (by simp))
  have hll : (r.size : Int) - (n : Int) = (r'.size : Int) := by omega
  by_cases hck : cap = k
  · have hcz := fun C => hc0 C (by omega)
    clear hcs hc0 hcv hr hrl hrr
    go_wp2_with (first
      | (go_at_call_of 21 (Value.pointer (some ⟨g, 0, none⟩)); refine (Err_any g _ _ _ hr5').mono ?_; rintro e w' ⟨rfl, rfl⟩)
      | (go_at_call_of 21 (Value.pointer (some ⟨g', 0, none⟩)); refine (Err_any g' _ _ _ hr5).mono ?_; rintro e w' ⟨rfl, rfl⟩)
      | (go_at_call_of 20 (Value.pointer (some ⟨g, 0, none⟩)); refine (Left_any g _ _ _ hr5').mono ?_; rintro e w' ⟨rfl, rfl⟩)
      | (go_at_call_of 20 (Value.pointer (some ⟨g', 0, none⟩)); refine (Left_any g' _ _ _ hr5).mono ?_; rintro e w' ⟨rfl, rfl⟩))
    go_ret
    exact ⟨rfl, hB5⟩
  · clear hcs hc0 hr hrl hrr
    go_wp2_with (first
      | (go_at_call_of 21 (Value.pointer (some ⟨g, 0, none⟩)); refine (Err_any g _ _ _ hr5').mono ?_; rintro e w' ⟨rfl, rfl⟩)
      | (go_at_call_of 21 (Value.pointer (some ⟨g', 0, none⟩)); refine (Err_any g' _ _ _ hr5).mono ?_; rintro e w' ⟨rfl, rfl⟩)
      | (go_at_call_of 20 (Value.pointer (some ⟨g, 0, none⟩)); refine (Left_any g _ _ _ hr5').mono ?_; rintro e w' ⟨rfl, rfl⟩)
      | (go_at_call_of 20 (Value.pointer (some ⟨g', 0, none⟩)); refine (Left_any g' _ _ _ hr5).mono ?_; rintro e w' ⟨rfl, rfl⟩))
    go_ret
    exact ⟨rfl, hB5⟩

/-- what the law's two readers answer -/
theorem texts_parts (b : List Int) (m : Nat) (h0 : (numS (strOfNums b) m).2.2 = 0) :
    ∃ k, 0 < k ∧ k ≤ b.length ∧ (numS (strOfNums b) m).2.1 = (strOfNums b).extract k (strOfNums b).size := by
  have hs := Nx.go_shape (bs (strOfNums b)) 0 0 (by omega) (by decide) (bs_rng _)
  unfold numS at h0 ⊢
  by_cases he : (Nx.go (bs (strOfNums b)) 0 0).2.2 ≠ 0
  · rw [if_pos he] at h0
    exact absurd h0 he
  · rw [if_neg he] at h0 ⊢
    by_cases hm : m < (Nx.go (bs (strOfNums b)) 0 0).1
    · rw [if_pos hm] at h0
      simp at h0
    · rw [if_neg hm]
      rcases hs with h | h
      · refine ⟨_, h.2.1, ?_, rfl⟩
        have := h.2.2.1
        rw [bs_len, strOfNums_size] at this
        omega
      · rcases h.1 with e | e <;> rw [e] at he <;> simp at he
theorem bs_extract (s : ByteArray) (i j : Nat) : bs (s.extract i j) = ((bs s).take j).drop i := by
  unfold bs
  rw [ByteArray.data_extract, Array.toList_extract]
  simp [List.extract_eq_take_drop, List.drop_take]

theorem texts_any (b : List Int) (A : Option Addr) (cap : Nat) (most : Int) (w : World) (hr : Rd w .u8 A b) (hcap : b.length ≤ cap) (hmax : cap ≤ maxLen) (hm : most ≤ 9223372036854775807) (hrng : ∀ x ∈ b, 0 ≤ x ∧ x ≤ 255) :
    Calls Try.prog 4 #[.slice A b.length cap, .int .i64 most] w fun e w' => e = .returned (.bool true) ∧ Below w.heap.size w w' := by
  by_cases hl : b.length ≤ 300
  · have hsz := strOfNums_size b
    have hns := numS_size (strOfNums b) most.toNat
    by_cases he : (numS (strOfNums b) most.toNat).2.2 ≠ 0
    · exact texts_err b A cap most most.toNat w hr hl hm rfl (numS (strOfNums b) most.toNat).2.1 (numS (strOfNums b) most.toNat).1 (numS (strOfNums b) most.toNat).2.2 (by unfold textS; rw [if_pos he]) rfl (by simpa using he)
    · have he' : (numS (strOfNums b) most.toNat).2.2 = 0 := Decidable.not_not.1 he
      have hn : numS (strOfNums b) most.toNat = ((numS (strOfNums b) most.toNat).1, (numS (strOfNums b) most.toNat).2.1, 0) := by rw [← he']
      by_cases hlt : (numS (strOfNums b) most.toNat).2.1.size < (numS (strOfNums b) most.toNat).1
      · exact texts_short b A cap most most.toNat w hr hl hm rfl _ _ (by unfold textS; rw [if_neg he, if_pos hlt]) hn hlt (by omega)
      · obtain ⟨k, hk0, hk, hkr⟩ := texts_parts b most.toNat he'
        have hrs : (numS (strOfNums b) most.toNat).2.1.size + k = b.length := by rw [hkr]; simp; omega
        refine texts_ok b A cap most most.toNat w hr hl hcap hm rfl _ _ _ _ k (by unfold textS; rw [if_neg he, if_neg hlt]) hn (by omega) hrs hk0 ?_ ?_
        · refine bs_inj ?_
          rw [bs_extract, hkr, bs_extract, bs_str hrng, bs_str (fun x hx => hrng x (List.mem_of_mem_drop (List.mem_of_mem_take hx))), hsz]
          simp
        · simp
          omega
  · exact texts_long b A cap most w (by omega) (by omega)

end Go.Proofs.Ytfjbelkpblgfiaa
