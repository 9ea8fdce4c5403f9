/- The law TextDecodes, walked. -/
import Derived.Test.YtdoglpaggmdnpaaTh
import Derived.Test.YtdoglpaggmdnpaaTl
import Derived.BigQuiet
import Derived.Deep.QuietTactic
namespace Go.Proofs.Ytdoglpaggmdnpaa
open Go.RowKit

theorem lines_dec (b c : List Int) (A : Option Addr) (cap : Nat) (w : World) (hr : Rd w .i32 A ((Tx.signs c).map Prod.snd)) (hl : c.length ≤ 1000000) (he : Tx.decode b = (Tx.lnF ((Tx.signs c).map Prod.snd)).1) :
    Calls Try.prog 13 #[.slice A (Tx.signs c).length cap] w (Gives .i32 (Tx.decode b) w) := by
  have h1 := Tx.rest_len c c.length 0 (by omega)
  have h2 := lines_any ((Tx.signs c).map Prod.snd) A cap w hr (by rw [List.length_map]; unfold Tx.signs; omega)
  rw [List.length_map] at h2
  rw [he]
  exact h2

theorem Rd.drop {w : World} {k : IntKind} {ad off : Nat} {xs : List Int} (h : Rd w k (some ⟨ad, off, none⟩) xs) (q : Nat) (hq : q ≤ xs.length) : Rd w k (some ⟨ad, off + q, none⟩) (xs.drop q) := by
  rcases h with rfl | ⟨b, o, he, hb, hc⟩
  · left; simp
  · right
    injection he with he
    cases he
    refine ⟨ad, off + q, rfl, hb, fun i hi => ?_⟩
    rw [List.length_drop] at hi
    rw [Nat.add_assoc, hc (q + i) (by omega)]
    simp

theorem all_dec (c : List Int) (A : Option Addr) (cap : Nat) (w : World) (hr : Rd w .u8 A c) (hcap : c.length ≤ cap) (hl : c.length ≤ 1000000) (hbd : ∀ i : Nat, 0 ≤ c[i]?.getD 0 ∧ c[i]?.getD 0 ≤ 255) :
    Calls Try.prog 11 #[.slice A c.length cap] w fun e w' => ∃ A1 c1 v2, e = .returned (.tuple #[.slice A1 (Tx.signs c).length c1, v2]) ∧ Rd w' .i32 A1 ((Tx.signs c).map Prod.snd) ∧ Below w.heap.size w w' := by
  refine (all_any c A cap w hr hcap hl hbd).mono ?_
  rintro e w' ⟨v1, v2, rfl, hrow1, _, hb⟩
  obtain ⟨A1, c1, rfl, h1, h2, h3, h4⟩ := Rd.own (k := .i32) (xs := (Tx.signs c).map Prod.snd) (v := v1) (n := (Tx.signs c).length) (w := w') (base := w.heap.size) (by rw [List.map_map]; exact hrow1)
  exact ⟨A1, c1, v2, by rw [List.length_map], h4, hb⟩


theorem all_drop (b : List Int) (A : Option Addr) (cap : Nat) (w : World) (hr : Rd w .u8 A (b.drop 3)) (hcap : b.length - 3 ≤ cap) (hl : b.length ≤ 1000000) (hbd : ∀ i : Nat, 0 ≤ b[i]?.getD 0 ∧ b[i]?.getD 0 ≤ 255) :
    Calls Try.prog 11 #[.slice A (b.length - 3) cap] w fun e w' => ∃ A1 c1 v2, e = .returned (.tuple #[.slice A1 (Tx.signs (b.drop 3)).length c1, v2]) ∧ Rd w' .i32 A1 ((Tx.signs (b.drop 3)).map Prod.snd) ∧ Below w.heap.size w w' := by
  have hlC : (b.drop 3).length = b.length - 3 := by simp
  have := all_dec (b.drop 3) A cap w hr (by rw [hlC]; omega) (by rw [hlC]; omega) (fun i => by simpa using hbd (3 + i))
  rw [hlC] at this
  exact this

theorem all_drop0 (b : List Int) (A : Option Addr) (w : World) (hr : Rd w .u8 A (b.drop 3)) (hl : b.length = 3) (hbd : ∀ i : Nat, 0 ≤ b[i]?.getD 0 ∧ b[i]?.getD 0 ≤ 255) :
    Calls Try.prog 11 #[.slice A 0 0] w fun e w' => ∃ A1 c1 v2, e = .returned (.tuple #[.slice A1 (Tx.signs (b.drop 3)).length c1, v2]) ∧ Rd w' .i32 A1 ((Tx.signs (b.drop 3)).map Prod.snd) ∧ Below w.heap.size w w' := by
  have := all_drop b A 0 w hr (by omega) (by omega) hbd
  rw [hl] at this
  exact this

set_option maxRecDepth 100000 in
set_option maxHeartbeats 600000 in
theorem decodes_short (b : List Int) (A : Option Addr) (cap : Nat) (w : World) (hr : Rd w .u8 A b) (hA : A = none → cap = 0) (hcap : b.length ≤ cap) (hbd : ∀ i : Nat, 0 ≤ b[i]?.getD 0 ∧ b[i]?.getD 0 ≤ 255) (hl : b.length < 3) (hdec : Tx.decode b = (Tx.lnF ((Tx.signs b).map Prod.snd)).1) :
    Calls Try.prog 4 #[.slice A b.length cap] w fun e w' => e = .returned (.bool true) ∧ Below w.heap.size w w' := by
  have HA := Lib.hid (fun W (h : Rd W .u8 A b) => all_dec b A cap W h (by omega) (by omega) hbd)
  have HL := Lib.hid (fun W A1 c1 (h : Rd W .i32 A1 ((Tx.signs b).map Prod.snd)) => lines_dec b b A1 c1 W h (by omega) hdec)
  have HD := Lib.hid (fun W (h : Rd W .u8 A b) => decode_any b A cap W h hA (by omega) hbd)
  have hlen : (Tx.decode b).length ≤ 1000 := by have h1 := Tx.decTo_len (Tx.signs b); have h2 := Tx.rest_len b b.length 0 (by omega); unfold Tx.decode; unfold Tx.signs at h1 ⊢; omega
  have h13 := fun k => Tx.no13 hdec k
  have HN := Lib.hid h13
  clear h13 hdec hbd
  go_enter Try.func4, Try.ntmps4
  go_wp2_with (first
    | (go_at_call 10; refine (head1_any _).mono ?_; rintro e w1 ⟨rfl, hb1⟩)
    | (go_at_call 11; refine (HA.out _ (hr.below hb1)).mono ?_; rintro e w2 ⟨A1, c1, v2, rfl, hrd2, hb2⟩)
    | (go_at_call 13; refine (HL.out _ _ _ hrd2).mono ?_; rintro e w3 ⟨A3, c3, rfl, hrd3, hx3, hy3, hb3⟩; clear hx3 hy3)
    | (go_at_call 14; refine (HD.out _ (hr.below (hb1.trans ((hb2.trans (hb3.mono hb2.size)).mono hb1.size)))).mono ?_; rintro e w4 ⟨A4, c4, rfl, hrd4, hx4, hy4, hb4⟩; clear hx4 hy4; have tt : (((Tx.decode b).length : Int) != ((Tx.decode b).length : Int)) = false := by simp))
  have hBw : Below w.heap.size w w4 := hb1.trans ((hb2.trans ((hb3.trans (hb4.mono hb3.size)).mono hb2.size)).mono hb1.size)
  have hrd3' := hrd3.below hb4
  clear hb1 hb2 hb3 hb4 hrd2 hrd3 HA HL HD
  go_loopw [54] (fun i wr => ∃ k n : Nat, i = .int .i64 k ∧ k ≤ (Tx.decode b).length ∧ wr = w4.drewN n) (fun i _ => (Tx.decode b).length - (intOf i).toNat)
  case atStart => exact ⟨0, 0, rfl, by omega, rfl⟩
  case round =>
    obtain ⟨k, n, rfl, hk, rfl⟩ := hrel
    by_cases hlt : k < (Tx.decode b).length
    · obtain ⟨b3, o3, rfl, hb3, hc3⟩ := hrd3'.pos (by omega)
      obtain ⟨b4, o4, rfl, hb4, hc4⟩ := hrd4.pos (by omega)
      have h3 := hc3 k hlt
      have h4 := hc4 k hlt
      have hn := HN.out k
      obtain ⟨x, hx⟩ : ∃ x, (Tx.decode b)[k]?.getD 0 = x := ⟨_, rfl⟩
      rw [hx] at h3 h4 hn
      have t5 : (x != x) = false := by simp
      clear hc3 hc4 hx hrd3' hrd4
      go_wp2
      go_quiet (fail)
      go_wp2
      go_roundw
      case rel => exact ⟨k + 1, n + nq, by go_num, by omega, by rw [← World.drewN_drewN]⟩
      case measure => simp [intOf]; omega
    · go_wp2
      go_ret
      exact ⟨rfl, below_drewN hBw n⟩

set_option maxRecDepth 100000 in
set_option maxHeartbeats 600000 in
theorem decodes_0 (b : List Int) (A : Option Addr) (cap : Nat) (w : World) (hr : Rd w .u8 A b) (hA : A = none → cap = 0) (hcap : b.length ≤ cap) (hbd : ∀ i : Nat, 0 ≤ b[i]?.getD 0 ∧ b[i]?.getD 0 ≤ 255) (hl : b.length ≤ 1000) (hl3 : 3 ≤ b.length) (ad off : Nat) (hAd : A = some ⟨ad, off, none⟩) (had : ad < w.heap.size) (b0 : Int) (hc0 : w.cell? ⟨ad, off, none⟩ = some (.int .u8 b0)) (ht : (b0 == 239) = false) (hdec : Tx.decode b = (Tx.lnF ((Tx.signs b).map Prod.snd)).1) :
    Calls Try.prog 4 #[.slice A b.length cap] w fun e w' => e = .returned (.bool true) ∧ Below w.heap.size w w' := by
  subst hAd
  have HA := Lib.hid (fun W (h : Rd W .u8 (some ⟨ad, off, none⟩) b) => all_dec b (some ⟨ad, off, none⟩) cap W h (by omega) (by omega) hbd)
  have HL := Lib.hid (fun W A1 c1 (h : Rd W .i32 A1 ((Tx.signs b).map Prod.snd)) => lines_dec b b A1 c1 W h (by omega) hdec)
  have HD := Lib.hid (fun W (h : Rd W .u8 (some ⟨ad, off, none⟩) b) => decode_any b (some ⟨ad, off, none⟩) cap W h hA (by omega) hbd)
  have hlen : (Tx.decode b).length ≤ 1000 := by have h1 := Tx.decTo_len (Tx.signs b); have h2 := Tx.rest_len b b.length 0 (by omega); unfold Tx.decode; unfold Tx.signs at h1 ⊢; omega
  have h13 := fun k => Tx.no13 hdec k
  have HN := Lib.hid h13
  clear h13 hdec hbd
  go_enter Try.func4, Try.ntmps4
  go_wp2_with (first
    | (go_at_call 10; refine (head1_any _).mono ?_; rintro e w1 ⟨rfl, hb1⟩; have hcc0 := (hb1.cell (p := ⟨ad, off, none⟩) had).trans hc0)
    | (go_at_call 11; refine (HA.out _ (hr.below hb1)).mono ?_; rintro e w2 ⟨A1, c1, v2, rfl, hrd2, hb2⟩)
    | (go_at_call 13; refine (HL.out _ _ _ hrd2).mono ?_; rintro e w3 ⟨A3, c3, rfl, hrd3, hx3, hy3, hb3⟩; clear hx3 hy3)
    | (go_at_call 14; refine (HD.out _ (hr.below (hb1.trans ((hb2.trans (hb3.mono hb2.size)).mono hb1.size)))).mono ?_; rintro e w4 ⟨A4, c4, rfl, hrd4, hx4, hy4, hb4⟩; clear hx4 hy4; have tt : (((Tx.decode b).length : Int) != ((Tx.decode b).length : Int)) = false := by simp))
  have hBw : Below w.heap.size w w4 := hb1.trans ((hb2.trans ((hb3.trans (hb4.mono hb3.size)).mono hb2.size)).mono hb1.size)
  have hrd3' := hrd3.below hb4
  clear hb1 hb2 hb3 hb4 hrd2 hrd3 HA HL HD
  go_loopw [54] (fun i wr => ∃ k n : Nat, i = .int .i64 k ∧ k ≤ (Tx.decode b).length ∧ wr = w4.drewN n) (fun i _ => (Tx.decode b).length - (intOf i).toNat)
  case atStart => exact ⟨0, 0, rfl, by omega, rfl⟩
  case round =>
    obtain ⟨k, n, rfl, hk, rfl⟩ := hrel
    by_cases hlt : k < (Tx.decode b).length
    · obtain ⟨b3, o3, rfl, hb3, hc3⟩ := hrd3'.pos (by omega)
      obtain ⟨b4, o4, rfl, hb4, hc4⟩ := hrd4.pos (by omega)
      have h3 := hc3 k hlt
      have h4 := hc4 k hlt
      have hn := HN.out k
      obtain ⟨x, hx⟩ : ∃ x, (Tx.decode b)[k]?.getD 0 = x := ⟨_, rfl⟩
      rw [hx] at h3 h4 hn
      have t5 : (x != x) = false := by simp
      clear hc3 hc4 hx hrd3' hrd4
      go_wp2
      go_quiet (fail)
      go_wp2
      go_roundw
      case rel => exact ⟨k + 1, n + nq, by go_num, by omega, by rw [← World.drewN_drewN]⟩
      case measure => simp [intOf]; omega
    · go_wp2
      go_ret
      exact ⟨rfl, below_drewN hBw n⟩

set_option maxRecDepth 100000 in
set_option maxHeartbeats 600000 in
theorem decodes_1 (b : List Int) (A : Option Addr) (cap : Nat) (w : World) (hr : Rd w .u8 A b) (hA : A = none → cap = 0) (hcap : b.length ≤ cap) (hbd : ∀ i : Nat, 0 ≤ b[i]?.getD 0 ∧ b[i]?.getD 0 ≤ 255) (hl : b.length ≤ 1000) (hl3 : 3 ≤ b.length) (ad off : Nat) (hAd : A = some ⟨ad, off, none⟩) (had : ad < w.heap.size) (b0 b1 : Int) (hc0 : w.cell? ⟨ad, off, none⟩ = some (.int .u8 b0)) (hc1 : w.cell? ⟨ad, off + 1, none⟩ = some (.int .u8 b1)) (ht : (b0 == 239) = true) (ht1 : (b1 == 187) = false) (hdec : Tx.decode b = (Tx.lnF ((Tx.signs b).map Prod.snd)).1) :
    Calls Try.prog 4 #[.slice A b.length cap] w fun e w' => e = .returned (.bool true) ∧ Below w.heap.size w w' := by
  subst hAd
  have HA := Lib.hid (fun W (h : Rd W .u8 (some ⟨ad, off, none⟩) b) => all_dec b (some ⟨ad, off, none⟩) cap W h (by omega) (by omega) hbd)
  have HL := Lib.hid (fun W A1 c1 (h : Rd W .i32 A1 ((Tx.signs b).map Prod.snd)) => lines_dec b b A1 c1 W h (by omega) hdec)
  have HD := Lib.hid (fun W (h : Rd W .u8 (some ⟨ad, off, none⟩) b) => decode_any b (some ⟨ad, off, none⟩) cap W h hA (by omega) hbd)
  have hlen : (Tx.decode b).length ≤ 1000 := by have h1 := Tx.decTo_len (Tx.signs b); have h2 := Tx.rest_len b b.length 0 (by omega); unfold Tx.decode; unfold Tx.signs at h1 ⊢; omega
  have h13 := fun k => Tx.no13 hdec k
  have HN := Lib.hid h13
  clear h13 hdec hbd
  go_enter Try.func4, Try.ntmps4
  go_wp2_with (first
    | (go_at_call 10; refine (head1_any _).mono ?_; rintro e w1 ⟨rfl, hb1⟩; have hcc0 := (hb1.cell (p := ⟨ad, off, none⟩) had).trans hc0; have hcc1 := (hb1.cell (p := ⟨ad, off + 1, none⟩) had).trans hc1)
    | (go_at_call 11; refine (HA.out _ (hr.below hb1)).mono ?_; rintro e w2 ⟨A1, c1, v2, rfl, hrd2, hb2⟩)
    | (go_at_call 13; refine (HL.out _ _ _ hrd2).mono ?_; rintro e w3 ⟨A3, c3, rfl, hrd3, hx3, hy3, hb3⟩; clear hx3 hy3)
    | (go_at_call 14; refine (HD.out _ (hr.below (hb1.trans ((hb2.trans (hb3.mono hb2.size)).mono hb1.size)))).mono ?_; rintro e w4 ⟨A4, c4, rfl, hrd4, hx4, hy4, hb4⟩; clear hx4 hy4; have tt : (((Tx.decode b).length : Int) != ((Tx.decode b).length : Int)) = false := by simp))
  have hBw : Below w.heap.size w w4 := hb1.trans ((hb2.trans ((hb3.trans (hb4.mono hb3.size)).mono hb2.size)).mono hb1.size)
  have hrd3' := hrd3.below hb4
  clear hb1 hb2 hb3 hb4 hrd2 hrd3 HA HL HD
  go_loopw [54] (fun i wr => ∃ k n : Nat, i = .int .i64 k ∧ k ≤ (Tx.decode b).length ∧ wr = w4.drewN n) (fun i _ => (Tx.decode b).length - (intOf i).toNat)
  case atStart => exact ⟨0, 0, rfl, by omega, rfl⟩
  case round =>
    obtain ⟨k, n, rfl, hk, rfl⟩ := hrel
    by_cases hlt : k < (Tx.decode b).length
    · obtain ⟨b3, o3, rfl, hb3, hc3⟩ := hrd3'.pos (by omega)
      obtain ⟨b4, o4, rfl, hb4, hc4⟩ := hrd4.pos (by omega)
      have h3 := hc3 k hlt
      have h4 := hc4 k hlt
      have hn := HN.out k
      obtain ⟨x, hx⟩ : ∃ x, (Tx.decode b)[k]?.getD 0 = x := ⟨_, rfl⟩
      rw [hx] at h3 h4 hn
      have t5 : (x != x) = false := by simp
      clear hc3 hc4 hx hrd3' hrd4
      go_wp2
      go_quiet (fail)
      go_wp2
      go_roundw
      case rel => exact ⟨k + 1, n + nq, by go_num, by omega, by rw [← World.drewN_drewN]⟩
      case measure => simp [intOf]; omega
    · go_wp2
      go_ret
      exact ⟨rfl, below_drewN hBw n⟩

set_option maxRecDepth 100000 in
set_option maxHeartbeats 600000 in
theorem decodes_2 (b : List Int) (A : Option Addr) (cap : Nat) (w : World) (hr : Rd w .u8 A b) (hA : A = none → cap = 0) (hcap : b.length ≤ cap) (hbd : ∀ i : Nat, 0 ≤ b[i]?.getD 0 ∧ b[i]?.getD 0 ≤ 255) (hl : b.length ≤ 1000) (hl3 : 3 ≤ b.length) (ad off : Nat) (hAd : A = some ⟨ad, off, none⟩) (had : ad < w.heap.size) (b0 b1 b2 : Int) (hc0 : w.cell? ⟨ad, off, none⟩ = some (.int .u8 b0)) (hc1 : w.cell? ⟨ad, off + 1, none⟩ = some (.int .u8 b1)) (hc2 : w.cell? ⟨ad, off + 2, none⟩ = some (.int .u8 b2)) (ht : (b0 == 239) = true) (ht1 : (b1 == 187) = true) (ht2 : (b2 == 191) = false) (hdec : Tx.decode b = (Tx.lnF ((Tx.signs b).map Prod.snd)).1) :
    Calls Try.prog 4 #[.slice A b.length cap] w fun e w' => e = .returned (.bool true) ∧ Below w.heap.size w w' := by
  subst hAd
  have HA := Lib.hid (fun W (h : Rd W .u8 (some ⟨ad, off, none⟩) b) => all_dec b (some ⟨ad, off, none⟩) cap W h (by omega) (by omega) hbd)
  have HL := Lib.hid (fun W A1 c1 (h : Rd W .i32 A1 ((Tx.signs b).map Prod.snd)) => lines_dec b b A1 c1 W h (by omega) hdec)
  have HD := Lib.hid (fun W (h : Rd W .u8 (some ⟨ad, off, none⟩) b) => decode_any b (some ⟨ad, off, none⟩) cap W h hA (by omega) hbd)
  have hlen : (Tx.decode b).length ≤ 1000 := by have h1 := Tx.decTo_len (Tx.signs b); have h2 := Tx.rest_len b b.length 0 (by omega); unfold Tx.decode; unfold Tx.signs at h1 ⊢; omega
  have h13 := fun k => Tx.no13 hdec k
  have HN := Lib.hid h13
  clear h13 hdec hbd
  go_enter Try.func4, Try.ntmps4
  go_wp2_with (first
    | (go_at_call 10; refine (head1_any _).mono ?_; rintro e w1 ⟨rfl, hb1⟩; have hcc0 := (hb1.cell (p := ⟨ad, off, none⟩) had).trans hc0; have hcc1 := (hb1.cell (p := ⟨ad, off + 1, none⟩) had).trans hc1; have hcc2 := (hb1.cell (p := ⟨ad, off + 2, none⟩) had).trans hc2)
    | (go_at_call 11; refine (HA.out _ (hr.below hb1)).mono ?_; rintro e w2 ⟨A1, c1, v2, rfl, hrd2, hb2⟩)
    | (go_at_call 13; refine (HL.out _ _ _ hrd2).mono ?_; rintro e w3 ⟨A3, c3, rfl, hrd3, hx3, hy3, hb3⟩; clear hx3 hy3)
    | (go_at_call 14; refine (HD.out _ (hr.below (hb1.trans ((hb2.trans (hb3.mono hb2.size)).mono hb1.size)))).mono ?_; rintro e w4 ⟨A4, c4, rfl, hrd4, hx4, hy4, hb4⟩; clear hx4 hy4; have tt : (((Tx.decode b).length : Int) != ((Tx.decode b).length : Int)) = false := by simp))
  have hBw : Below w.heap.size w w4 := hb1.trans ((hb2.trans ((hb3.trans (hb4.mono hb3.size)).mono hb2.size)).mono hb1.size)
  have hrd3' := hrd3.below hb4
  clear hb1 hb2 hb3 hb4 hrd2 hrd3 HA HL HD
  go_loopw [54] (fun i wr => ∃ k n : Nat, i = .int .i64 k ∧ k ≤ (Tx.decode b).length ∧ wr = w4.drewN n) (fun i _ => (Tx.decode b).length - (intOf i).toNat)
  case atStart => exact ⟨0, 0, rfl, by omega, rfl⟩
  case round =>
    obtain ⟨k, n, rfl, hk, rfl⟩ := hrel
    by_cases hlt : k < (Tx.decode b).length
    · obtain ⟨b3, o3, rfl, hb3, hc3⟩ := hrd3'.pos (by omega)
      obtain ⟨b4, o4, rfl, hb4, hc4⟩ := hrd4.pos (by omega)
      have h3 := hc3 k hlt
      have h4 := hc4 k hlt
      have hn := HN.out k
      obtain ⟨x, hx⟩ : ∃ x, (Tx.decode b)[k]?.getD 0 = x := ⟨_, rfl⟩
      rw [hx] at h3 h4 hn
      have t5 : (x != x) = false := by simp
      clear hc3 hc4 hx hrd3' hrd4
      go_wp2
      go_quiet (fail)
      go_wp2
      go_roundw
      case rel => exact ⟨k + 1, n + nq, by go_num, by omega, by rw [← World.drewN_drewN]⟩
      case measure => simp [intOf]; omega
    · go_wp2
      go_ret
      exact ⟨rfl, below_drewN hBw n⟩

set_option maxRecDepth 100000 in
set_option maxHeartbeats 600000 in
theorem decodes_3 (b : List Int) (A : Option Addr) (cap : Nat) (w : World) (hr : Rd w .u8 A b) (hA : A = none → cap = 0) (hcap : b.length ≤ cap) (hbd : ∀ i : Nat, 0 ≤ b[i]?.getD 0 ∧ b[i]?.getD 0 ≤ 255) (hl : b.length ≤ 1000) (hl3 : 3 ≤ b.length) (ad off : Nat) (hAd : A = some ⟨ad, off, none⟩) (had : ad < w.heap.size) (b0 b1 b2 : Int) (hc0 : w.cell? ⟨ad, off, none⟩ = some (.int .u8 b0)) (hc1 : w.cell? ⟨ad, off + 1, none⟩ = some (.int .u8 b1)) (hc2 : w.cell? ⟨ad, off + 2, none⟩ = some (.int .u8 b2)) (ht : (b0 == 239) = true) (ht1 : (b1 == 187) = true) (ht2 : (b2 == 191) = true) (hc3 : ¬ cap = 3) (hdec : Tx.decode b = (Tx.lnF ((Tx.signs (b.drop 3)).map Prod.snd)).1) :
    Calls Try.prog 4 #[.slice A b.length cap] w fun e w' => e = .returned (.bool true) ∧ Below w.heap.size w w' := by
  subst hAd
  have hbdC : ∀ i : Nat, 0 ≤ (b.drop 3)[i]?.getD 0 ∧ (b.drop 3)[i]?.getD 0 ≤ 255 := fun i => by simpa using hbd (3 + i)
  have hlC : (b.drop 3).length = b.length - 3 := by simp
  have hrC : Rd w .u8 (some ⟨ad, off + 3, none⟩) (b.drop 3) := Rd.drop hr 3 (by omega)
  have HA := Lib.hid (fun W (h : Rd W .u8 (some ⟨ad, off + 3, none⟩) (b.drop 3)) => all_drop b (some ⟨ad, off + 3, none⟩) (cap - 3) W h (by omega) (by omega) hbd)
  have HL := Lib.hid (fun W A1 c1 (h : Rd W .i32 A1 ((Tx.signs (b.drop 3)).map Prod.snd)) => lines_dec b (b.drop 3) A1 c1 W h (by rw [hlC]; omega) hdec)
  have HD := Lib.hid (fun W (h : Rd W .u8 (some ⟨ad, off, none⟩) b) => decode_any b (some ⟨ad, off, none⟩) cap W h hA (by omega) hbd)
  have hlen : (Tx.decode b).length ≤ 1000 := by have h1 := Tx.decTo_len (Tx.signs b); have h2 := Tx.rest_len b b.length 0 (by omega); unfold Tx.decode; unfold Tx.signs at h1 ⊢; omega
  have h13 := fun k => Tx.no13 hdec k
  have HN := Lib.hid h13
  clear h13 hdec hbd
  go_enter Try.func4, Try.ntmps4
  go_wp2_with (first
    | (go_at_call 10; refine (head1_any _).mono ?_; rintro e w1 ⟨rfl, hb1⟩; have hcc0 := (hb1.cell (p := ⟨ad, off, none⟩) had).trans hc0; have hcc1 := (hb1.cell (p := ⟨ad, off + 1, none⟩) had).trans hc1; have hcc2 := (hb1.cell (p := ⟨ad, off + 2, none⟩) had).trans hc2)
    | (go_at_call 11; refine (HA.out _ (hrC.below hb1)).mono ?_; rintro e w2 ⟨A1, c1, v2, rfl, hrd2, hb2⟩)
    | (go_at_call 13; refine (HL.out _ _ _ hrd2).mono ?_; rintro e w3 ⟨A3, c3, rfl, hrd3, hx3, hy3, hb3⟩; clear hx3 hy3)
    | (go_at_call 14; refine (HD.out _ (hr.below (hb1.trans ((hb2.trans (hb3.mono hb2.size)).mono hb1.size)))).mono ?_; rintro e w4 ⟨A4, c4, rfl, hrd4, hx4, hy4, hb4⟩; clear hx4 hy4; have tt : (((Tx.decode b).length : Int) != ((Tx.decode b).length : Int)) = false := by simp))
  have hBw : Below w.heap.size w w4 := hb1.trans ((hb2.trans ((hb3.trans (hb4.mono hb3.size)).mono hb2.size)).mono hb1.size)
  have hrd3' := hrd3.below hb4
  clear hb1 hb2 hb3 hb4 hrd2 hrd3 HA HL HD
  go_loopw [54] (fun i wr => ∃ k n : Nat, i = .int .i64 k ∧ k ≤ (Tx.decode b).length ∧ wr = w4.drewN n) (fun i _ => (Tx.decode b).length - (intOf i).toNat)
  case atStart => exact ⟨0, 0, rfl, by omega, rfl⟩
  case round =>
    obtain ⟨k, n, rfl, hk, rfl⟩ := hrel
    by_cases hlt : k < (Tx.decode b).length
    · obtain ⟨b3, o3, rfl, hb3, hc3⟩ := hrd3'.pos (by omega)
      obtain ⟨b4, o4, rfl, hb4, hc4⟩ := hrd4.pos (by omega)
      have h3 := hc3 k hlt
      have h4 := hc4 k hlt
      have hn := HN.out k
      obtain ⟨x, hx⟩ : ∃ x, (Tx.decode b)[k]?.getD 0 = x := ⟨_, rfl⟩
      rw [hx] at h3 h4 hn
      have t5 : (x != x) = false := by simp
      clear hc3 hc4 hx hrd3' hrd4
      go_wp2
      go_quiet (fail)
      go_wp2
      go_roundw
      case rel => exact ⟨k + 1, n + nq, by go_num, by omega, by rw [← World.drewN_drewN]⟩
      case measure => simp [intOf]; omega
    · go_wp2
      go_ret
      exact ⟨rfl, below_drewN hBw n⟩

set_option maxRecDepth 100000 in
set_option maxHeartbeats 600000 in
theorem decodes_4 (b : List Int) (A : Option Addr) (cap : Nat) (w : World) (hr : Rd w .u8 A b) (hA : A = none → cap = 0) (hcap : b.length ≤ cap) (hbd : ∀ i : Nat, 0 ≤ b[i]?.getD 0 ∧ b[i]?.getD 0 ≤ 255) (hl : b.length ≤ 1000) (hl3 : 3 ≤ b.length) (ad off : Nat) (hAd : A = some ⟨ad, off, none⟩) (had : ad < w.heap.size) (b0 b1 b2 : Int) (hc0 : w.cell? ⟨ad, off, none⟩ = some (.int .u8 b0)) (hc1 : w.cell? ⟨ad, off + 1, none⟩ = some (.int .u8 b1)) (hc2 : w.cell? ⟨ad, off + 2, none⟩ = some (.int .u8 b2)) (ht : (b0 == 239) = true) (ht1 : (b1 == 187) = true) (ht2 : (b2 == 191) = true) (hc3 : cap = 3) (hdec : Tx.decode b = (Tx.lnF ((Tx.signs (b.drop 3)).map Prod.snd)).1) :
    Calls Try.prog 4 #[.slice A b.length cap] w fun e w' => e = .returned (.bool true) ∧ Below w.heap.size w w' := by
  subst hAd
  subst hc3
  have hbdC : ∀ i : Nat, 0 ≤ (b.drop 3)[i]?.getD 0 ∧ (b.drop 3)[i]?.getD 0 ≤ 255 := fun i => by simpa using hbd (3 + i)
  have hlC : (b.drop 3).length = b.length - 3 := by simp
  have hrC : Rd w .u8 (some ⟨ad, off, none⟩) (b.drop 3) := .inl (List.eq_nil_of_length_eq_zero (by rw [hlC]; omega))
  have HA := Lib.hid (fun W (h : Rd W .u8 (some ⟨ad, off, none⟩) (b.drop 3)) => all_drop0 b (some ⟨ad, off, none⟩) W h (by omega) hbd)
  have HL := Lib.hid (fun W A1 c1 (h : Rd W .i32 A1 ((Tx.signs (b.drop 3)).map Prod.snd)) => lines_dec b (b.drop 3) A1 c1 W h (by rw [hlC]; omega) hdec)
  have HD := Lib.hid (fun W (h : Rd W .u8 (some ⟨ad, off, none⟩) b) => decode_any b (some ⟨ad, off, none⟩) 3 W h hA (by omega) hbd)
  have hlen : (Tx.decode b).length ≤ 1000 := by have h1 := Tx.decTo_len (Tx.signs b); have h2 := Tx.rest_len b b.length 0 (by omega); unfold Tx.decode; unfold Tx.signs at h1 ⊢; omega
  have h13 := fun k => Tx.no13 hdec k
  have HN := Lib.hid h13
  clear h13 hdec hbd
  go_enter Try.func4, Try.ntmps4
  go_wp2_with (first
    | (go_at_call 10; refine (head1_any _).mono ?_; rintro e w1 ⟨rfl, hb1⟩; have hcc0 := (hb1.cell (p := ⟨ad, off, none⟩) had).trans hc0; have hcc1 := (hb1.cell (p := ⟨ad, off + 1, none⟩) had).trans hc1; have hcc2 := (hb1.cell (p := ⟨ad, off + 2, none⟩) had).trans hc2)
    | (go_at_call 11; refine (HA.out _ (hrC.below hb1)).mono ?_; rintro e w2 ⟨A1, c1, v2, rfl, hrd2, hb2⟩)
    | (go_at_call 13; refine (HL.out _ _ _ hrd2).mono ?_; rintro e w3 ⟨A3, c3, rfl, hrd3, hx3, hy3, hb3⟩; clear hx3 hy3)
    | (go_at_call 14; refine (HD.out _ (hr.below (hb1.trans ((hb2.trans (hb3.mono hb2.size)).mono hb1.size)))).mono ?_; rintro e w4 ⟨A4, c4, rfl, hrd4, hx4, hy4, hb4⟩; clear hx4 hy4; have tt : (((Tx.decode b).length : Int) != ((Tx.decode b).length : Int)) = false := by simp))
  have hBw : Below w.heap.size w w4 := hb1.trans ((hb2.trans ((hb3.trans (hb4.mono hb3.size)).mono hb2.size)).mono hb1.size)
  have hrd3' := hrd3.below hb4
  clear hb1 hb2 hb3 hb4 hrd2 hrd3 HA HL HD
  go_loopw [54] (fun i wr => ∃ k n : Nat, i = .int .i64 k ∧ k ≤ (Tx.decode b).length ∧ wr = w4.drewN n) (fun i _ => (Tx.decode b).length - (intOf i).toNat)
  case atStart => exact ⟨0, 0, rfl, by omega, rfl⟩
  case round =>
    obtain ⟨k, n, rfl, hk, rfl⟩ := hrel
    by_cases hlt : k < (Tx.decode b).length
    · obtain ⟨b3, o3, rfl, hb3, hc3⟩ := hrd3'.pos (by omega)
      obtain ⟨b4, o4, rfl, hb4, hc4⟩ := hrd4.pos (by omega)
      have h3 := hc3 k hlt
      have h4 := hc4 k hlt
      have hn := HN.out k
      obtain ⟨x, hx⟩ : ∃ x, (Tx.decode b)[k]?.getD 0 = x := ⟨_, rfl⟩
      rw [hx] at h3 h4 hn
      have t5 : (x != x) = false := by simp
      clear hc3 hc4 hx hrd3' hrd4
      go_wp2
      go_quiet (fail)
      go_wp2
      go_roundw
      case rel => exact ⟨k + 1, n + nq, by go_num, by omega, by rw [← World.drewN_drewN]⟩
      case measure => simp [intOf]; omega
    · go_wp2
      go_ret
      exact ⟨rfl, below_drewN hBw n⟩


theorem decodes_all (b : List Int) (A : Option Addr) (cap : Nat) (w : World) (hr : Rd w .u8 A b) (hA : A = none → cap = 0) (hcap : b.length ≤ cap) (hbd : ∀ i : Nat, 0 ≤ b[i]?.getD 0 ∧ b[i]?.getD 0 ≤ 255) (hl : b.length ≤ 1000) :
    Calls Try.prog 4 #[.slice A b.length cap] w fun e w' => e = .returned (.bool true) ∧ Below w.heap.size w w' := by
  have hbm : ∀ x ∈ b, 0 ≤ x ∧ x ≤ 255 := by
    intro x hx
    obtain ⟨i, hi, rfl⟩ := List.getElem_of_mem hx
    have := hbd i
    rw [List.getElem?_eq_getElem hi] at this
    exact this
  by_cases h3 : b.length < 3
  · refine decodes_short b A cap w hr hA hcap hbd h3 (Tx.decode_nobom b hbm ?_)
    rintro ⟨r, rfl⟩
    simp at h3
    omega
  · obtain ⟨ad, off, hAd, had, hcs⟩ := hr.pos (by omega)
    have c0 := hcs 0 (by omega)
    have c1 := hcs 1 (by omega)
    have c2 := hcs 2 (by omega)
    have no : ∀ (i : Nat) (v : Int), (b[i]?.getD 0 == v) = false → (∀ r, (239 :: 187 :: 191 :: r : List Int)[i]?.getD 0 = v) → Tx.decode b = (Tx.lnF ((Tx.signs b).map Prod.snd)).1 := fun i v h h' => Tx.decode_nobom b hbm (by
      rintro ⟨r, rfl⟩
      rw [h' r] at h
      simp at h)
    cases t0 : (b[0]?.getD 0 == 239) with
    | false => exact decodes_0 b A cap w hr hA hcap hbd hl (by omega) ad off hAd had _ c0 t0 (no 0 239 t0 (fun _ => rfl))
    | true =>
      cases t1 : (b[1]?.getD 0 == 187) with
      | false => exact decodes_1 b A cap w hr hA hcap hbd hl (by omega) ad off hAd had _ _ c0 c1 t0 t1 (no 1 187 t1 (fun _ => rfl))
      | true =>
        cases t2 : (b[2]?.getD 0 == 191) with
        | false => exact decodes_2 b A cap w hr hA hcap hbd hl (by omega) ad off hAd had _ _ _ c0 c1 c2 t0 t1 t2 (no 2 191 t2 (fun _ => rfl))
        | true =>
          have hb : b = 239 :: 187 :: 191 :: b.drop 3 := by
            match b, h3, t0, t1, t2 with
            | x :: y :: z :: r, _, t0, t1, t2 =>
              simp at t0 t1 t2
              simp [t0, t1, t2]
          have hdec : Tx.decode b = (Tx.lnF ((Tx.signs (b.drop 3)).map Prod.snd)).1 := by
            have := Tx.decode_bom (b.drop 3)
            rw [← hb] at this
            exact this
          by_cases hc : cap = 3
          · exact decodes_4 b A cap w hr hA hcap hbd hl (by omega) ad off hAd had _ _ _ c0 c1 c2 t0 t1 t2 hc hdec
          · exact decodes_3 b A cap w hr hA hcap hbd hl (by omega) ad off hAd had _ _ _ c0 c1 c2 t0 t1 t2 hc hdec

set_option maxHeartbeats 400000 in
theorem decodes_long (b : List Int) (A : Option Addr) (cap : Nat) (w : World) (hl : 1000 < b.length) :
    Calls Try.prog 4 #[.slice A b.length cap] w fun e w' => e = .returned (.bool true) ∧ Below w.heap.size w w' := by
  go_enter Try.func4, Try.ntmps4
  go_wp2_with (go_at_call 10; refine (head1_any _).mono ?_; rintro e w1 ⟨rfl, hb1⟩)
  go_ret
  exact ⟨rfl, hb1⟩

end Go.Proofs.Ytdoglpaggmdnpaa
