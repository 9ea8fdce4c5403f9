/- The law FramePuts, walked. -/
import Derived.Test.YtbdmlenapccdnaaFg
import Derived.Deep.RegionHeld3
import Derived.Maps.AppendAt
namespace Go.Proofs.Ytbdmlenapccdnaa
open Go.RowKit Go.Shelf

set_option maxRecDepth 100000 in
set_option maxHeartbeats 14000000 in
theorem framePuts_law (b data : List Int) (A B : Option Addr) (ca cb : Nat) (w : World) (hb : Rd w .u8 A b) (hd : Rd w .u8 B data) (hA : A = none → ca = 0) (hB : B = none → cb = 0) (h8 : Byte8 data) :
    Calls Try.prog 4 #[.slice A b.length ca, .slice B data.length cb] w fun e w' => e = .returned (.bool true) ∧ Below w.heap.size w w' := by
  obtain ⟨i0, hi, hz0, hz1, hz2⟩ := info_parts infoU8
  go_enter Try.func4, Try.ntmps4
  go_wp2_with fail
  refine (head5_any w).mono ?_
  rintro e w1 ⟨rfl, hb1⟩
  by_cases hl1 : (100 : Int) < (b.length : Int)
  · have hd1 : decide ((100 : Int) < (b.length : Int)) = true := by simpa using hl1
    go_wp2
    go_ret
    exact ⟨rfl, hb1⟩
  have hd1 : decide ((100 : Int) < (b.length : Int)) = false := by simpa using hl1
  by_cases hl2 : (1000 : Int) < (data.length : Int)
  · have hd2 : decide ((1000 : Int) < (data.length : Int)) = true := by simpa using hl2
    go_wp2
    go_ret
    exact ⟨rfl, hb1⟩
  have hd2 : decide ((1000 : Int) < (data.length : Int)) = false := by simpa using hl2
  have hb1' := hb.below hb1
  have hd1' := hd.below hb1
  have hba : Below w1.heap.size w1 (w1.alloc (.cells #[] 5)) := (Below.refl _ _).alloc (Nat.le_refl _) _
  go_wp2_with (at_builtin; refine wpList_append_rd rfl 28 rfl w1.heap.size 5 i0 (.int .u8 0) 1 Try.underlying28 hi hz0 hz1 hz2 (.slice (some ⟨w1.heap.size, 0, none⟩) 0 0) 0 [] rfl (World.ownsRow_lit w1 #[] 0 (Nat.le_refl _) (by decide) rfl) A b.length ca rfl b .u8 rfl (hb1'.below hba) hA rfl (by unfold maxLen; omega) (by omega) (by simp) ?_; intro v2 w2 hown2 hg2; have hb2 : Below w1.heap.size w1 w2 := hba.grown hg2 hba.size (fun k e => (by cases e; exact Nat.le_refl _)); simp only [List.nil_append, Nat.zero_add] at hown2; clear hg2)
  obtain ⟨A2, c2, rfl, _, _, hn2, hrd2⟩ := Rd.own hown2
  refine (Frame_any b data A2 B c2 cb w2 hrd2 (hd1'.below hb2) hn2 hB h8 (by omega) (by omega)).mono ?_
  obtain ⟨X, hX⟩ : ∃ X, b ++ Fx.frame data = X := ⟨_, rfl⟩
  rw [hX]
  have HX := Lib.hid hX
  clear hX
  rintro e w3 ⟨v3, rfl, hown3, hb3⟩
  obtain ⟨A3, c3, rfl, hl3, hc3, hn3, hrd3⟩ := Rd.own hown3
  clear hl3 hc3
  have KV : ∀ w', Below w3.heap.size w3 w' → (convert 28 9 (.slice A3 X.length c3)).run Try.prog w' = .ok (.string (strOfNums X)) w' := fun w' h => conv5 (hrd3.below h)
  have HKV := Lib.hid KV
  clear KV
  have hfl := frame_len data (by omega)
  have hb13 := thn hb2 hb3
  have hb3' := hb1'.below hb13
  have hd3' := hd1'.below hb13
  have ts : ((strOfNums X).toList == (strOfNums X).toList) = true := by simp
  have ts2 : ((Fx.sum data : Int) == (Fx.sum data : Int)) = true := by simp
  have hSl := Fx.sum_lt data
  have hwr : IntKind.u64.wrap (Fx.sum data : Int) = (Fx.sum data : Int) := by simp [IntKind.wrap, IntKind.bits, IntKind.signed]; omega
  clear hown2 hown3
  go_wp2_with fail
  have hba3 : Below w3.heap.size w3 (w3.drew.alloc (.cells #[] 5)) := (Below.refl _ w3).drew.alloc (Nat.le_refl _) _
  have kv3 := HKV.out w3.drew (Below.refl _ w3).drew
  have kva := HKV.out _ hba3
  have kvb := HKV.out (w3.alloc (.cells #[] 5)).drew ((Below.refl _ w3).alloc (Nat.le_refl _) _).drew
  go_region_law (first
      | (refine step_append_rd (by rfl) _ _ (by rfl) w3.heap.size (.slice (some ⟨w3.heap.size, 0, none⟩) 0 0) 0 [] rfl (World.ownsRow_lit w3.drew #[] 0 (Nat.le_refl _) (by decide) rfl) A b.length ca rfl b rfl (hb3'.below hba3) hA (by omega) hba3.size ?_; intro v4 w4 hown4 hg4; have hb4 : Below w3.heap.size w3 w4 := hba3.grown hg4 hba3.size (fun k e => (by cases e; exact Nat.le_refl _)); simp only [List.nil_append, Nat.zero_add] at hown4; have kv4   := HKV.out _ hb4; clear hg4)
      | (refine step_call1 (by rfl) 28 _ _ (fun w args => enters_of Try.func28 (by kernel_rfl) rfl args w) (by rfl) (.slice B data.length cb) rfl (Post := fun v w' => w'.ownsRow w4.heap.size 5 1 v (Fx.frame data).length ((Fx.frame data).map (Value.int .u8)) ∧ Below w4.heap.size w4 w') (of_any data B cb w4 (hd3'.below hb4) hB h8 (by omega)) ?_; intro v5 w5 h5; obtain ⟨hown5, hb45⟩ := h5; obtain ⟨A5, c5, rfl, hl5, hc5, hn5, hrd5⟩ := Rd.own hown5; have hb5 : Below w3.heap.size w3 w5 := thn hb4 hb45; have hown45 := own_keep hown4 hb45; have kv5   := HKV.out _ hb5; clear hown4 hown5)
      | (refine step_append_rd (by rfl) _ _ (by rfl) w3.heap.size v4 _ _ rfl hown45 A5 _ c5 rfl (Fx.frame data) rfl hrd5 hn5 (by omega) hb5.size ?_; intro v6 w6 hown6 hg6; have hb6 : Below w3.heap.size w3 w6 := hb5.grown hg6 hb5.size (fun k e => (hown45.lt k e).1); rw [HX.out] at hown6; obtain ⟨A6, c6, rfl, hl6, hc6, hn6, hrd6⟩ := Rd.own hown6; have hv6 := conv5 (cap := c6) hrd6; have kv6   := HKV.out _ hb6; clear hown6 hg6 hl6 hc6)
      | (refine step_call1 (by rfl) 29 _ _ (fun w args => enters_of Try.func29 (by kernel_rfl) rfl args w) (by rfl) (.slice B data.length cb) rfl (Post := fun v w' => v = .int .u32 (Fx.sum data) ∧ w' = w6) ((Sum_any data B cb w6 (hd3'.below hb6) h8 (by omega)).mono (fun e w' h => ⟨_, h.1, rfl, h.2⟩)) ?_; intro v7 w7 hh7; obtain ⟨hv7, hw7⟩ := hh7; rw [hv7, hw7]; clear hv7 hw7)
      | (refine step_call1 (by rfl) 30 _ _ (fun w args => enters_of Try.func30 (by kernel_rfl) rfl args w) (by rfl) (.slice B data.length cb) rfl (Post := fun v w' => v = .int .u64 (Fx.sum data) ∧ w' = w6) ((lsum_any data B cb w6 (hd3'.below hb6) h8 (by omega)).mono (fun e w' h => ⟨_, h.1, rfl, h.2⟩)) ?_; intro v8 w8 hh8; obtain ⟨hv8, hw8⟩ := hh8; rw [hv8, hw8]; clear hv8 hw8)
      | fail)
  all_goals
    go_wp2
    go_ret
    exact ⟨rfl, thn (thn hb1 hb13) hb6⟩

end Go.Proofs.Ytbdmlenapccdnaa
