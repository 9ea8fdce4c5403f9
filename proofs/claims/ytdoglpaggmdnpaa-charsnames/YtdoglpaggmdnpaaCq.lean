/- The contract of chars.Names; the law CharsMatches, walked. -/
import Derived.Test.YtdoglpaggmdnpaaCh
import Derived.Test.YtdoglpaggmdnpaaPo
namespace Go.Proofs.Ytdoglpaggmdnpaa
open Go.RowKit

/-- the table lies in block B -/
def EntsAt (w : World) (B : Nat) : Prop := w.heap[B]? = some (.cells Cx.ents 52 (0, 0))
theorem EntsAt.lt {w : World} {B : Nat} (h : EntsAt w B) : B < w.heap.size := by
  rcases Nat.lt_or_ge B w.heap.size with hlt | hge
  · exact hlt
  · unfold EntsAt at h; rw [Array.getElem?_eq_none hge] at h; cases h
theorem EntsAt.below {w w' : World} {B : Nat} (h : EntsAt w B) (hb : Below w.heap.size w w') : EntsAt w' B := (hb.block B h.lt).trans h
theorem EntsAt.cell {w : World} {B : Nat} (h : EntsAt w B) (i : Nat) : w.cell? ⟨B, i, none⟩ = Cx.ents[i]? := by
  unfold EntsAt at h
  simp [World.cell?, h]

set_option maxRecDepth 100000 in
set_option maxHeartbeats 400000 in
theorem names_any (w : World) :
    Calls Try.prog 24 #[] w fun e w' => ∃ B, e = .returned (.slice (some ⟨B, 0, none⟩) 61 61) ∧ EntsAt w' B ∧ Below w.heap.size w w' := by
  go_enter Try.func24, Try.ntmps24
  go_wp2_with fail
  refine (entries_any _).mono ?_
  rintro e w' ⟨rfl, rfl⟩
  go_wp2_with (first
    | (refine wpList_plain rfl fun K hK => wp_alloc 52 Cx.zeros rfl (zero_ents _) (hK _ _ ?_); clear hK)
    | (refine wpList_plain rfl fun K hK => wp_store_row 52 _ _ rfl ((w.alloc (Obj.cells Cx.ents 52)).heap.size) Cx.ents rfl rfl 52 Cx.zeros (heap_alloc_last (w.alloc (Obj.cells Cx.ents 52)) (.cells Cx.zeros 52)) (by rw [ents_info, ents_size]) (by rw [zeros_size, ents_size]) ents_one (hK _ _ ?_); clear hK; rw [World.setRow_alloc_new]))
  go_ret
  exact ⟨_, rfl, by have := heap_alloc_last (w.alloc (Obj.cells Cx.ents 52)) (.cells Cx.ents 52); rw [World.size_alloc] at this; exact this, ((Below.refl _ _).alloc (Nat.le_refl _) _).alloc (by simp) _⟩

theorem ret_bool' {a b : Bool} (h : a = b) : Ending.returned (.bool a) = .returned (.bool b) := by rw [h]
theorem match_none (rs : List Int) (A : Option Addr) (cap : Nat) (w : World) (hr : Rd w .i32 A rs) (hl : rs.length ≤ 1000000) (hz : (Cx.best rs 61).2.1 = 0) :
    Calls Try.prog 25 #[.slice A rs.length cap] w fun e w' => ∃ B, e = .returned (.tuple #[.slice B 0 0, .int .i64 0, .bool false]) ∧ Below w.heap.size w w' := by
  refine (match_any rs A cap w hr hl).mono ?_
  rintro e w' ⟨B, rfl, _, hb⟩
  have hf : Cx.found rs = [] := by unfold Cx.found; rw [if_pos hz]
  exact ⟨B, by rw [hf, hz, Cx.best_zero rs 61 (by omega) hz]; rfl, hb⟩
theorem match_some (rs : List Int) (A : Option Addr) (cap : Nat) (w : World) (hr : Rd w .i32 A rs) (hl : rs.length ≤ 1000000) (hz : ¬ (Cx.best rs 61).2.1 = 0) :
    Calls Try.prog 25 #[.slice A rs.length cap] w fun e w' => ∃ b off L, e = .returned (.tuple #[.slice (some ⟨b, off, none⟩) L L, .int .i64 (Cx.best rs 61).2.1, .bool (Cx.best rs 61).2.2]) ∧ 1 ≤ L ∧ L ≤ 2 ∧
      w'.cell? ⟨b, off, none⟩ = some (.int .i32 (Cx.best rs 61).1.2.1) ∧ Below w.heap.size w w' := by
  refine (match_any rs A cap w hr hl).mono ?_
  rintro e w' ⟨B, rfl, hrd, hb⟩
  have hf : Cx.found rs = Cx.meaning (Cx.best rs 61).1 := by unfold Cx.found; rw [if_neg hz]
  have hm := Cx.meaning_head (Cx.best rs 61).1
  rw [← hf] at hm
  obtain ⟨b, off, rfl, _, hc⟩ := hrd.pos (by omega)
  refine ⟨b, off, _, rfl, hm.1, hm.2.1, ?_, hb⟩
  have := hc 0 (by omega)
  rw [hm.2.2] at this
  exact this

set_option maxRecDepth 100000 in
set_option maxHeartbeats 2000000 in
theorem matches_short (rs : List Int) (A : Option Addr) (cap : Nat) (w : World) (hr : Rd w .i32 A rs) (hl : rs.length ≤ 40) :
    Calls Try.prog 9 #[.slice A rs.length cap] w fun e w' => e = .returned (.bool true) ∧ Below w.heap.size w w' := by
  go_enter Try.func9, Try.ntmps9
  go_wp2_with (first | (go_at_call 23; refine (head2_any _).mono ?_; rintro e w1 ⟨rfl, hb1⟩) | (go_at_call 24; refine (names_any _).mono ?_; rintro e w2 ⟨B, rfl, hE, hb2⟩))
  have hB2 : Below w.heap.size w w2 := hb1.trans (hb2.mono hb1.size)
  have hr2 := hr.below hB2
  clear hr hb1 hb2 
  go_loopw [3, 4, 5, 19] (fun a s e i wr => ∃ k : Nat, k ≤ 61 ∧ i = .int .i64 k ∧ a = .int .i64 (Cx.best rs k).2.1 ∧ s = .int .i32 (Cx.best rs k).1.2.1 ∧ e = .bool (Cx.best rs k).2.2 ∧ Below w2.heap.size w2 wr)
    (fun _ _ _ i _ => 61 - (intOf i).toNat)
  case atStart => exact ⟨0, by omega, rfl, rfl, rfl, rfl, Below.refl _ _⟩
  case round =>
    obtain ⟨k, hk, rfl, rfl, rfl, rfl, hB⟩ := hrel
    have hr1 := hr2.below hB
    have hE1 := hE.below hB
    have hle := Cx.best_le rs k hk
    by_cases hlt : k < 61
    · obtain ⟨nm, sg, bare, he⟩ : ∃ nm sg bare, Cx.tab[k]?.getD ([], 0, false) = (nm, sg, bare) := ⟨_, _, _, rfl⟩
      obtain ⟨e0, e1, e2⟩ := Cx.ents_cell k hlt nm sg bare he
      have c0 := (hE1.cell (k * 3)).trans e0
      have c1 := (hE1.cell (k * 3 + 1)).trans e1
      have c2 := (hE1.cell (k * 3 + 2)).trans e2
      have hBl := hE1.lt
      have hnm := Cx.tab_len' k hlt nm sg bare he
      obtain ⟨st, hst⟩ : ∃ st : ByteArray, (⟨nm.toArray⟩ : ByteArray) = st := ⟨_, rfl⟩
      rw [hst] at c0
      have hnl : st.data.toList = nm := by rw [← hst]
      have hsz : st.size = nm.length := by rw [← hst]; simp [ByteArray.size]
      have hs0 : 0 < st.size := by omega
      have hs1 : st.size ≤ 10 := by omega
      have HE := Lib.hid he
      have HNL := Lib.hid hnl
      clear he e0 e1 e2 hE1 hE hr2 hst hnl hsz hnm
      go_wp2
      go_loopw [8] (fun i wq => ∃ j : Nat, j ≤ st.size ∧ j ≤ rs.length ∧ i = .int .i64 j ∧ (∀ i, i < j → rs[i]?.getD 0 = ((st.data.toList[i]?.getD 0).toNat : Int)) ∧ ∃ n, wq = (wr.alloc (.cells #[.string st, .int .i32 sg, .bool bare] 45)).drewN n)
        (fun i _ => st.size - (intOf i).toNat)
      case atStart => exact ⟨0, by omega, by omega, rfl, fun i hi => absurd hi (by omega), 0, rfl⟩
      case round =>
        obtain ⟨j, hj, hjr, rfl, hm, n, rfl⟩ := hrel
        have HM := Lib.hid hm
        clear hm
        by_cases hjs : j < st.size
        · by_cases hjl : j < rs.length
          · obtain ⟨b, off, rfl, hblk, hc⟩ := hr1.pos (by omega)
            have hck := hc j hjl
            have hwr := wrap32_u8 st[j]
            have HX := Lib.hid (show rs[j]?.getD 0 = rs[j] by simp [hjl])
            have HF := Lib.hid (byte_at st j hjs)
            clear hc hr1
            go_wp2
            go_quiet (fail)
            go_wp2
            · have heq : (rs[j] == (st[j].toNat : Int)) = true := by assumption
              go_roundw
              case rel =>
                refine ⟨j + 1, by omega, by omega, by go_num, fun i hi => ?_, _, rfl⟩
                by_cases hij : i < j
                · exact HM.out i hij
                · have : i = j := by omega
                  subst this
                  rw [HX.out, HF.out]; simpa using heq
              case measure => simp [intOf]; omega
            · have hne : (rs[j] == (st[j].toNat : Int)) = false := by assumption
              have ht : Cx.taken rs nm bare = (0, false) := by
                rw [← HNL.out]
                exact Cx.taken_miss _ _ _ j (by simpa using hjs) (by rw [HX.out, HF.out]; simpa using hne)
              have hbs := Cx.best_keep rs k hlt nm sg bare HE.out (by rw [ht]; simp)
              go_roundw
              case rel => exact ⟨k + 1, by omega, by go_num, by rw [hbs], by rw [hbs], by rw [hbs], below_drewN (hB.alloc hB.size _) _⟩
              case measure => simp [intOf]; omega
          · have hd : decide ((j : Int) < (rs.length : Int)) = false := by simpa using hjl
            have ht : Cx.taken rs nm bare = (0, false) := by
              rw [← HNL.out]
              exact Cx.taken_short _ _ _ (by have : st.data.toList.length = st.size := by simp
                                             omega)
            have hbs := Cx.best_keep rs k hlt nm sg bare HE.out (by rw [ht]; simp)
            have HBS := Lib.hid hbs
            clear hbs ht
            go_wp2
            go_quiet (fail)
            go_wp2
            have hbs := HBS.out
            go_roundw
            case rel => exact ⟨k + 1, by omega, by go_num, by rw [hbs], by rw [hbs], by rw [hbs], below_drewN (hB.alloc hB.size _) _⟩
            case measure => simp [intOf]; omega
        · have hd : decide ((j : Int) < (st.size : Int)) = false := by simpa using hjs
          obtain rfl : j = st.size := by omega
          have hln : st.data.toList.length = st.size := by simp
          have hp : Cx.pre nm rs = true := by
            rw [← HNL.out]
            exact (Cx.pre_iff _ _).2 ⟨by omega, fun i hi => HM.out i (by omega)⟩
          have hnl : nm.length = st.size := by rw [← HNL.out]; exact hln
          have HNN := Lib.hid hnl
          have HP := Lib.hid hp
          clear hln hp hnl
          by_cases hjl : st.size < rs.length
          · obtain ⟨b, off, rfl, hblk, hc⟩ := hr1.pos (by omega)
            have hck := hc st.size hjl
            clear hc hr1
            go_wp2
            go_quiet (fail)
            go_wp2
            · have h1 : (rs[st.size] == 59) = true := by assumption
              have h2 : ((Cx.best rs k).2.1 : Int) < (st.size : Int) + 1 := by assumption
              have ht := Cx.taken_semi rs nm bare HP.out (by rw [HNN.out]; simpa [hjl] using h1)
              have hbs := Cx.best_take rs k hlt nm sg bare HE.out (by rw [ht, HNN.out]; simp only; omega)
              go_roundw
              case rel => exact ⟨k + 1, by omega, by go_num, by rw [hbs, ht, HNN.out] <;> go_num, by rw [hbs], by rw [hbs, ht], below_drewN (hB.alloc hB.size _) _⟩
              case measure => simp [intOf]; omega
            · have h1 : (rs[st.size] == 59) = true := by assumption
              have h2 : (st.size : Int) + 1 ≤ ((Cx.best rs k).2.1 : Int) := by assumption
              have ht := Cx.taken_semi rs nm bare HP.out (by rw [HNN.out]; simpa [hjl] using h1)
              have hbs := Cx.best_keep rs k hlt nm sg bare HE.out (by rw [ht, HNN.out]; simp only; omega)
              go_roundw
              case rel => exact ⟨k + 1, by omega, by go_num, by rw [hbs], by rw [hbs], by rw [hbs], below_drewN (hB.alloc hB.size _) _⟩
              case measure => simp [intOf]; omega
            · have h1 : (rs[st.size] == 59) = false := by assumption
              have h3 : bare = true := by assumption
              have h2 : (Cx.best rs k).2.1 < st.size := by assumption
              have ht := Cx.taken_bare rs nm bare HP.out (by rw [HNN.out]; simpa [hjl] using h1)
              rw [if_pos h3] at ht
              have hbs := Cx.best_take rs k hlt nm sg bare HE.out (by rw [ht, HNN.out]; exact h2)
              go_roundw
              case rel => exact ⟨k + 1, by omega, by go_num, by rw [hbs, ht, HNN.out] <;> go_num, by rw [hbs], by rw [hbs, ht], below_drewN (hB.alloc hB.size _) _⟩
              case measure => simp [intOf]; omega
            · have h1 : (rs[st.size] == 59) = false := by assumption
              have h3 : bare = true := by assumption
              have h2 : ¬ (Cx.best rs k).2.1 < st.size := by assumption
              have ht := Cx.taken_bare rs nm bare HP.out (by rw [HNN.out]; simpa [hjl] using h1)
              rw [if_pos h3] at ht
              have hbs := Cx.best_keep rs k hlt nm sg bare HE.out (by rw [ht, HNN.out]; exact h2)
              go_roundw
              case rel => exact ⟨k + 1, by omega, by go_num, by rw [hbs], by rw [hbs], by rw [hbs], below_drewN (hB.alloc hB.size _) _⟩
              case measure => simp [intOf]; omega
            · have h1 : (rs[st.size] == 59) = false := by assumption
              have h3 : ¬ bare = true := by assumption
              have ht := Cx.taken_bare rs nm bare HP.out (by rw [HNN.out]; simpa [hjl] using h1)
              rw [if_neg h3] at ht
              have hbs := Cx.best_keep rs k hlt nm sg bare HE.out (by rw [ht]; simp)
              go_roundw
              case rel => exact ⟨k + 1, by omega, by go_num, by rw [hbs], by rw [hbs], by rw [hbs], below_drewN (hB.alloc hB.size _) _⟩
              case measure => simp [intOf]; omega
          · have hd2 : decide ((st.size : Int) < (rs.length : Int)) = false := by simpa using hjl
            go_wp2
            go_quiet (fail)
            go_wp2
            · have h3 : bare = true := by assumption
              have h2 : (Cx.best rs k).2.1 < st.size := by assumption
              have ht := Cx.taken_bare rs nm bare HP.out (by rw [HNN.out]; simp [hjl])
              rw [if_pos h3] at ht
              have hbs := Cx.best_take rs k hlt nm sg bare HE.out (by rw [ht, HNN.out]; exact h2)
              go_roundw
              case rel => exact ⟨k + 1, by omega, by go_num, by rw [hbs, ht, HNN.out] <;> go_num, by rw [hbs], by rw [hbs, ht], below_drewN (hB.alloc hB.size _) _⟩
              case measure => simp [intOf]; omega
            · have h3 : bare = true := by assumption
              have h2 : ¬ (Cx.best rs k).2.1 < st.size := by assumption
              have ht := Cx.taken_bare rs nm bare HP.out (by rw [HNN.out]; simp [hjl])
              rw [if_pos h3] at ht
              have hbs := Cx.best_keep rs k hlt nm sg bare HE.out (by rw [ht, HNN.out]; exact h2)
              go_roundw
              case rel => exact ⟨k + 1, by omega, by go_num, by rw [hbs], by rw [hbs], by rw [hbs], below_drewN (hB.alloc hB.size _) _⟩
              case measure => simp [intOf]; omega
            · have h3 : ¬ bare = true := by assumption
              have ht := Cx.taken_bare rs nm bare HP.out (by rw [HNN.out]; simp [hjl])
              rw [if_neg h3] at ht
              have hbs := Cx.best_keep rs k hlt nm sg bare HE.out (by rw [ht]; simp)
              go_roundw
              case rel => exact ⟨k + 1, by omega, by go_num, by rw [hbs], by rw [hbs], by rw [hbs], below_drewN (hB.alloc hB.size _) _⟩
              case measure => simp [intOf]; omega
    · obtain rfl : k = 61 := by omega
      clear hE hr2 hk hlt
      cases hm : ((((Cx.best rs 61).2.1 : Nat) : Int) == 0) with
      | true =>
        have HD := Lib.hid (match_none rs A cap wr hr1 (by omega) (by have := eq_of_beq hm; omega))
        go_wp2_with (go_at_call 25; refine HD.out.mono ?_; rintro e w' ⟨B', rfl, hb3⟩)
        go_ret
        exact ⟨rfl, hB2.trans ((hB.trans (hb3.mono hB.size)).mono hB2.size)⟩
      | false =>
        have HD := Lib.hid (match_some rs A cap wr hr1 (by omega) (by simpa using hm))
        have q1 : (((Cx.best rs 61).2.1 : Nat) : Int) == (((Cx.best rs 61).2.1 : Nat) : Int) := by simp
        have q2 : ((Cx.best rs 61).2.2 == (Cx.best rs 61).2.2) = true := by simp
        have q3 : ((Cx.best rs 61).1.2.1 == (Cx.best rs 61).1.2.1) = true := by simp
        go_wp2_with (go_at_call 25; refine HD.out.mono ?_; rintro e w' ⟨b, off, L, rfl, hL1, hL2, hcl, hb3⟩)
        all_goals
          go_ret
          exact ⟨ret_bool' (by simp), hB2.trans ((hB.trans (hb3.mono hB.size)).mono hB2.size)⟩

set_option maxHeartbeats 400000 in
theorem matches_long (rs : List Int) (A : Option Addr) (cap : Nat) (w : World) (hl : 40 < rs.length) :
    Calls Try.prog 9 #[.slice A rs.length cap] w fun e w' => e = .returned (.bool true) ∧ Below w.heap.size w w' := by
  go_enter Try.func9, Try.ntmps9
  go_wp2_with (go_at_call 23; refine (head2_any _).mono ?_; rintro e w1 ⟨rfl, hb1⟩)
  go_ret
  exact ⟨rfl, hb1⟩

end Go.Proofs.Ytdoglpaggmdnpaa
