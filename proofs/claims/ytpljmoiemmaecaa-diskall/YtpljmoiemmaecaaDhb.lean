/- The law DiskAll, walked. -/
import Derived.Test.YtpljmoiemmaecaaDha
import Derived.Deep.QuietTactic
import Derived.BigQuiet
namespace Go.Proofs.Ytpljmoiemmaecaa
open Go.RowKit

set_option maxRecDepth 100000 in
set_option maxHeartbeats 1000000 in
theorem diskAll_law (os : List OpV) (O : Option Addr) (co : Nat) (torn : Int) (w : World) (hO : RdO w O os) (hco : os.length ≤ maxLen) :
    Calls Try.prog 8 #[.slice O os.length co, .int .i64 torn] w fun e w' => e = .returned (.bool true) ∧ Fr (fun _ => False) w w' := by
  unfold maxLen at hco
  have HO := Lib.hid hO
  clear hO
  go_enter Try.func8, Try.ntmps8
  go_wp2_with fail
  refine (head4_any w).mono ?_
  rintro e w1 ⟨rfl, hf1⟩
  go_wp2_with fail
  refine (New_many (Mny.none w1 0 (fun _ => 0) (fun _ => newA 0)) 1048576).mono ?_
  rintro e w2 ⟨rfl, h2, _⟩
  go_wp2_with fail
  refine (New_many h2 1048576).mono ?_
  rintro e w3 ⟨rfl, h3, _⟩
  go_wp2_with fail
  refine (New_many h3 1048576).mono ?_
  rintro e w4 ⟨rfl, h4, _⟩
  obtain ⟨a, ea⟩ : ∃ a, w1.heap.size = a := ⟨_, rfl⟩
  obtain ⟨b, eb⟩ : ∃ b, w2.heap.size = b := ⟨_, rfl⟩
  obtain ⟨c, ec⟩ : ∃ c, w3.heap.size = c := ⟨_, rfl⟩
  rw [ea, eb, ec] at h4
  rw [ea, eb, ec]
  have h40 : ∃ A, Mny w1 w4 (fun _ => False) 3 (D3 a b c) (3 * 0) (fun _ => A) ∧ Qt A := ⟨newA 1048576, h4.congr (fun i hi => by
    match i, hi with
    | 0, _ => rfl
    | 1, _ => rfl
    | 2, _ => rfl) (fun i hi => by
    match i, hi with
    | 0, _ => rfl
    | 1, _ => rfl
    | 2, _ => rfl), rfl, rfl⟩
  clear h2 h3 h4 ea eb ec
  go_wp2_with fail
  go_loopw [8] (fun iv wr => ∃ i : Nat, i ≤ 40 ∧ iv = .int .i64 i ∧ ∃ A, Mny w1 wr (fun _ => False) 3 (D3 a b c) (3 * i) (fun _ => A) ∧ Qt A) (fun iv _ => 40 - (intOf iv).toNat)
  case atStart => exact ⟨0, by omega, rfl, h40⟩
  case round =>
    rename World => ur
    obtain ⟨i, hi, rfl, A, hM, hq⟩ := hrel
    clear h40
    by_cases hin : (i : Int) < (os.length : Int) ∧ (i : Int) < 40
    · obtain ⟨hlt, h40⟩ := hin
      obtain ⟨o, ho⟩ : ∃ o, os[i]? = some o := ⟨_, List.getElem?_eq_getElem (by omega)⟩
      have hok : OpOk w1 o := (HO.out.fr hf1).ok ho
      have hO1 := (HO.out.fr hf1).fr hM.fr
      rcases hO1 with hn | ⟨bb, off, rfl, hb, hat⟩
      · subst hn; simp at ho
      obtain ⟨x0, x1, x2, x3, x4, x5⟩ := (hat i o ho).1
      have hl1 : decide ((i : Int) < (os.length : Int)) = true := by simpa using hlt
      have hl2 : decide ((i : Int) < 40) = true := by simpa using h40
      have hF1 : Fr (fun _ => False) ur (ur.alloc (.cells (opCells o) 30)) := Fr.alloc ur _ _
      have hM1 := hM.keep hF1
      by_cases hg : (300 : Int) < o.b.length ∨ (100 : Int) < o.s.size ∨ (100 : Int) < o.t.size
      · clear HO
        go_wp2_with fail
        all_goals first
          | exact ⟨⟨i + 1, by omega, by go_num, A, hM1.le (by omega), hq⟩, by simp [intOf]; omega⟩
          | (exfalso; omega)
      · have g1 : decide ((300 : Int) < o.b.length) = false := by simp; omega
        have g2 : decide ((100 : Int) < o.s.size) = false := by simp; omega
        have g3 : decide ((100 : Int) < o.t.size) = false := by simp; omega
        obtain ⟨W, hW⟩ : ∃ W, (ur.alloc (.cells (opCells o) 30)).alloc (.cells (pCells a b c) 24) = W := ⟨_, rfl⟩
        have hFW : Fr (fun _ => False) ur W := by rw [← hW]; exact hF1.trans (Fr.alloc _ _ _)
        have hI0 : AllIn w1 a b c ur.heap.size (ur.heap.size + 1) (3 * i) o A 0 W := by
          refine ⟨((hM.new hFW).sub (fun k hk => .inr ?_)).congr (fun _ _ => rfl) (fun j _ => by unfold As2; simp), ?_, ?_⟩
          · have hsz : W.heap.size = ur.heap.size + 2 := by rw [← hW]; simp
            rcases hk with hk | hk <;> omega
          · rw [← hW]
            exact (show Cel (ur.alloc (.cells (opCells o) 30)) ur.heap.size 30 (opCells o) from heap_alloc_new ur _).of (Below.heap_alloc _ _ _ (by simp))
          · rw [← hW]
            have := heap_alloc_new (ur.alloc (.cells (opCells o) 30)) (.cells (pCells a b c) 24)
            simpa [Cel] using this
        have hmu : (3 * i + 3 : Nat) < 2000 := by omega
        subst hW
        clear hat HO hg
        go_wp2_with fail
        go_loopw [66] (fun kv wi => ∃ k : Nat, k ≤ 3 ∧ kv = .int .i64 k ∧ AllIn w1 a b c ur.heap.size (ur.heap.size + 1) (3 * i) o A k wi) (fun kv _ => 3 - (intOf kv).toNat)
        case atStart => exact ⟨0, by omega, rfl, hI0⟩
        case round =>
          obtain ⟨k, hk, rfl, hI⟩ := hrel
          have y := fun j => hI.op.cell j
          have y0 := y 0
          have y1 := y 1
          have y2 := y 2
          have y3 := y 3
          simp [opCells] at y0 y1 y2 y3
          clear y hI0 hFW hM1 x0 x1 x2 x3 x4 x5
          by_cases hk3 : k < 3
          · have hl3 : decide ((k : Int) < 3) = true := by simp; omega
            have yp := pCell hI.row hk3
            have kW := Lib.hid (Write_many hI.many hk3 o.s o.A o.c o.b hok.ss (hok.rd.fr hI.many.fr) hok.nl (by omega))
            have kM := Lib.hid (Move_many hI.many hk3 o.s o.t hok.ss hok.ts (by omega))
            have kD := Lib.hid (Drop_many hI.many hk3 o.s hok.ss (by omega))
            have kS := Lib.hid (Sync_many hI.many hk3 (by omega))
            rw [As2_at] at kW kM kD kS
            by_cases h2 : k = 2
            · have hl2 : ((k : Int) == 2) = true := by simp; omega
              clear h2
              go_wp2_with (first
                | (go_at_call 15; refine kW.out.mono ?_; rintro e w5 ⟨rfl, h5, q5⟩)
                | (go_at_call 16; refine kM.out.mono ?_; rintro e w5 ⟨rfl, h5, q5⟩)
                | (go_at_call 17; refine kD.out.mono ?_; rintro e w5 ⟨rfl, h5, q5⟩)
                | (go_at_call 18; refine kS.out.mono ?_; rintro e w5 ⟨rfl, h5, q5⟩)
                | (go_at_call 22; refine (Crash_many h5 hk3 0 torn (by omega)).mono ?_; rintro e w6 ⟨rfl, h6, q6⟩; replace h6 := h6.congr (D' := D3 a b c) (As' := fun j => if j = k then (syA A).1 else As2 k (stA A o) A j) (fun _ _ => rfl) (cr_fix hq torn)))
              all_goals refine ⟨⟨k + 1, by omega, by go_num, ?_⟩, by simp [intOf]; omega⟩
              all_goals first
                | exact hI.step (by rw [stA_3 (by assumption)] at *; exact h6) (fun x hx => (q6 x hx).trans (q5 x hx))
                | exact hI.step (by rw [stA_0 (by assumption)] at *; exact h5) q5
                | exact hI.step (by rw [stA_1 (by assumption)] at *; exact h5) q5
                | exact hI.step (by rw [stA_2 (by assumption)] at *; exact h5) q5
                | exact hI.skip (stA_4 (by assumption) (by assumption) (by assumption) (by assumption))
            · have hl2 : ((k : Int) == 2) = false := by simp; omega
              go_wp2_with (first
                | (go_at_call 15; refine kW.out.mono ?_; rintro e w5 ⟨rfl, h5, q5⟩)
                | (go_at_call 16; refine kM.out.mono ?_; rintro e w5 ⟨rfl, h5, q5⟩)
                | (go_at_call 17; refine kD.out.mono ?_; rintro e w5 ⟨rfl, h5, q5⟩)
                | (go_at_call 18; refine kS.out.mono ?_; rintro e w5 ⟨rfl, h5, q5⟩))
              all_goals refine ⟨⟨k + 1, by omega, by go_num, ?_⟩, by simp [intOf]; omega⟩
              all_goals first
                | exact hI.step (by rw [stA_3 (by assumption)] at *; exact h5) q5
                | exact hI.step (by rw [stA_0 (by assumption)] at *; exact h5) q5
                | exact hI.step (by rw [stA_1 (by assumption)] at *; exact h5) q5
                | exact hI.step (by rw [stA_2 (by assumption)] at *; exact h5) q5
                | exact hI.skip (stA_4 (by assumption) (by assumption) (by assumption) (by assumption))
          · have hl3 : decide ((k : Int) < 3) = false := by simp; omega
            obtain rfl : k = 3 := by omega
            clear y0 y1 y2 y3
            have hM2 := (hI.many.sub (Q' := fun _ => False) (fun _ h => h.elim)).congr (D' := D3 a b c) (As' := fun _ => stA A o) (fun _ _ => rfl) (fun j hj => by unfold As2; rw [if_pos hj])
            go_wp2_with fail
            exact ⟨⟨i + 1, by omega, by go_num, stA A o, hM2.le (by omega), hq.st o⟩, by simp [intOf]; omega⟩
    · obtain ⟨σA, hG⟩ := hM.get (i := 0) (by omega)
      have eB : (crA A 1073741824 torn).now = A.now := Gd.all hG (by omega) torn
      have eC := cr_zero A
      have hlN : A.now.length ≤ 3 * i := hG.lenN
      have hoff := hq.off
      have hex : (((i : Int) < (os.length : Int) ∧ decide ((i : Int) < (os.length : Int)) = true) ∧ ¬ (i : Int) < 40 ∧ decide ((i : Int) < 40) = false) ∨ ¬ (i : Int) < (os.length : Int) ∧ decide ((i : Int) < (os.length : Int)) = false := by
        simp only [decide_eq_true_eq, decide_eq_false_iff_not]
        omega
      rcases hex with ⟨⟨hlt, hl1⟩, h40, hl2⟩ | ⟨hlt, hl1⟩
      all_goals
        clear hin
        go_wp2_with fail
        refine (Crash_many hM (i := 1) (by omega) 1073741824 torn (by omega)).mono ?_
        rintro e w5 ⟨rfl, h5, _⟩
        go_wp2_with fail
        refine (Crash_many h5 (i := 2) (by omega) 0 0 (by omega)).mono ?_
        rintro e w6 ⟨rfl, h6, _⟩
        replace h6 := h6.congr (D' := D3 a b c) (As' := As3 A (crA A 1073741824 torn) (crA A 0 0)) (fun _ _ => rfl) (fun j hj => by
          match j, hj with
          | 0, _ => rfl
          | 1, _ => rfl
          | 2, _ => rfl)
        clear h5 hM
        go_wp2_with fail
        refine (Names_manyL h6 (i := 0) (by omega) hoff (by omega) A.now rfl).mono ?_
        rintro e w7 ⟨X, cx, rfl, hX, hf7⟩
        have h7 := h6.keep hf7
        go_wp2_with fail
        refine (Names_manyL h7 (i := 1) (by omega) rfl (by omega) A.now eB).mono ?_
        rintro e w8 ⟨Y, cy, rfl, hY, hf8⟩
        have h8 := h7.keep hf8
        have hX8 := hX.fr hf8
        have kU0 := Lib.hid (Used_many h8 (i := 0) (by omega) A.now rfl)
        have kU1 := Lib.hid (Used_many h8 (i := 1) (by omega) A.now eB)
        clear h6 h7 hX
        go_wp2_with fail
        refine kU0.out.mono ?_
        rintro e w' ⟨rfl, rfl⟩
        go_wp2_with fail
        refine kU1.out.mono ?_
        rintro e w' ⟨rfl, rfl⟩
        go_wp2_with fail
        clear kU0 kU1
        go_loopw [128] (fun jv wj => ∃ j : Nat, j ≤ A.now.length ∧ jv = .int .i64 j ∧ Fr (fun _ => False) w8 wj) (fun jv _ => A.now.length - (intOf jv).toNat)
        case atStart => exact ⟨0, by omega, rfl, Fr.refl _ _⟩
        case round =>
          rename World => uj
          obtain ⟨j, hj, rfl, hfj⟩ := hrel
          have hj8 := h8.keep hfj
          by_cases hjl : j < A.now.length
          · have hl3 : decide ((j : Int) < (A.now.length : Int)) = true := by simp; omega
            have HJ := Lib.hid hjl
            obtain ⟨p, hp⟩ : ∃ p, A.now[j]? = some p := ⟨_, List.getElem?_eq_getElem hjl⟩
            obtain ⟨gx, rfl, xj⟩ := (hX8.fr hfj).at hp
            obtain ⟨gy, rfl, yj⟩ := (hY.fr hfj).at hp
            have hsz := hj8.nameLe (i := 0) (by omega) (L := A.now) rfl hp
            go_wp2_with fail
            refine (Read_manyL hj8 (i := 0) (by omega) p.1 hsz (rdA A p.1) rfl).mono ?_
            rintro e w9 ⟨B9, c9, rfl, hb9, hf9⟩
            have xj9 := (World.cell?_of_block (hf9.block gx (block_lt xj) (fun h => h))).trans xj
            have yj9 := (World.cell?_of_block (hf9.block gy (block_lt yj) (fun h => h))).trans yj
            go_wp2_with fail
            refine (Read_manyL (hj8.keep hf9) (i := 1) (by omega) p.1 hsz (rdA A p.1) (rd_same eB hoff.symm p.1)).mono ?_
            rintro e w10 ⟨B10, c10, rfl, hb10, hf10⟩
            have xj10 := (World.cell?_of_block (hf10.block gx (block_lt xj9) (fun h => h))).trans xj9
            have yj10 := (World.cell?_of_block (hf10.block gy (block_lt yj9) (fun h => h))).trans yj9
            have k9 := fun n => conv_rdb ((hb9.fr hf10 (fun _ _ h => h)).fr (Fr.drewN w10 n (fun _ => False)) (fun _ _ h => h))
            have k10 := fun n => conv_rdb (hb10.fr (Fr.drewN w10 n (fun _ => False)) (fun _ _ h => h))
            have ts := str_self p.1
            have ts2 := str_self (strOfNums (rdA A p.1).1)
            clear xj yj xj9 yj9 hb9 hb10
            go_wp2_with fail
            go_quiet (fail)
            go_wp2
            go_roundw
            case rel => exact ⟨j + 1, HJ.out, by go_num, ((hfj.trans hf9).trans hf10).trans (Fr.drewN _ _ _)⟩
            case measure => exact meas HJ.out
          · have hl3 : decide ((j : Int) < (A.now.length : Int)) = false := by simp; omega
            clear hX8 hY
            go_wp2_with fail
            refine (Crash_many hj8 (i := 0) (by omega) 0 0 (by omega)).mono ?_
            rintro e w9 ⟨rfl, h9, _⟩
            replace h9 := h9.congr (D' := D3 a b c) (As' := As3 (crA A 0 0) (crA A 1073741824 torn) (crA A 0 0)) (fun _ _ => rfl) (fun j hj => by
              match j, hj with
              | 0, _ => rfl
              | 1, _ => rfl
              | 2, _ => rfl)
            go_wp2_with fail
            refine (Names_manyL h9 (i := 2) (by omega) rfl (by omega) A.safe eC).mono ?_
            rintro e w10 ⟨Z, cz, rfl, hZ, hf10⟩
            have h10 := h9.keep hf10
            go_wp2_with fail
            refine (Names_manyL h10 (i := 0) (by omega) rfl (by omega) A.safe eC).mono ?_
            rintro e w11 ⟨V, cv, rfl, _, hf11⟩
            have h11 := h10.keep hf11
            go_wp2_with fail
            refine (Names_manyL h11 (i := 0) (by omega) rfl (by omega) A.safe eC).mono ?_
            rintro e w12 ⟨V2, cv2, rfl, hV2, hf12⟩
            have h12 := h11.keep hf12
            have hZ12 := (hZ.fr hf11).fr hf12
            have hlS : A.safe.length ≤ 3 * i := h12.lenN (i := 2) (by omega) eC
            clear hj8 h9 h10 h11 hZ
            go_wp2_with fail
            go_loopw [179] (fun jv wj => ∃ j : Nat, j ≤ A.safe.length ∧ jv = .int .i64 j ∧ Fr (fun _ => False) w12 wj) (fun jv _ => A.safe.length - (intOf jv).toNat)
            case atStart => exact ⟨0, by omega, rfl, Fr.refl _ _⟩
            case round =>
              obtain ⟨q, hq1, rfl, hfq⟩ := hrel
              have hq12 := h12.keep hfq
              by_cases hql : q < A.safe.length
              · have hl4 : decide ((q : Int) < (A.safe.length : Int)) = true := by simp; omega
                have HQ := Lib.hid hql
                obtain ⟨p, hp⟩ : ∃ p, A.safe[q]? = some p := ⟨_, List.getElem?_eq_getElem hql⟩
                obtain ⟨gx, rfl, xj⟩ := (hZ12.fr hfq).at hp
                obtain ⟨gy, rfl, yj⟩ := (hV2.fr hfq).at hp
                have hsz := hq12.nameLe (i := 0) (by omega) (L := A.safe) eC hp
                go_wp2_with fail
                refine (Read_manyL hq12 (i := 0) (by omega) p.1 hsz (rdA (crA A 0 0) p.1) rfl).mono ?_
                rintro e w13 ⟨B13, c13, rfl, hb13, hf13⟩
                have xj13 := (World.cell?_of_block (hf13.block gx (block_lt xj) (fun h => h))).trans xj
                go_wp2_with fail
                refine (Read_manyL (hq12.keep hf13) (i := 2) (by omega) p.1 hsz (rdA (crA A 0 0) p.1) rfl).mono ?_
                rintro e w14 ⟨B14, c14, rfl, hb14, hf14⟩
                have xj14 := (World.cell?_of_block (hf14.block gx (block_lt xj13) (fun h => h))).trans xj13
                have k13 := conv_rdb (hb13.fr hf14 (fun _ _ h => h))
                have k14 := conv_rdb hb14
                have ts := str_self p.1
                have ts2 := str_self (strOfNums (rdA (crA A 0 0) p.1).1)
                clear xj yj xj13 hb13 hb14
                go_wp2_with fail
                go_roundw
                case rel => exact ⟨q + 1, HQ.out, by go_num, (hfq.trans hf13).trans hf14⟩
                case measure => exact meas HQ.out
              · have hl4 : decide ((q : Int) < (A.safe.length : Int)) = false := by simp; omega
                have hfr := hf1.trans hq12.fr
                go_wp2
                go_ret
                exact ⟨rfl, hfr⟩

end Go.Proofs.Ytpljmoiemmaecaa
