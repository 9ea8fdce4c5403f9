/- The law PathTables, walked. -/
import Derived.Test.YtfkbjniodomdjaaDoorQj
import Derived.Test.YtfkbjniodomdjaaDoorQi3
import Derived.Test.YtfkbjniodomdjaaDoorQk
import Derived.Deep.CutRange
import Derived.Deep.CutBlock
import Derived.Test.YtfkbjniodomdjaaDoorPh
import Derived.BigQuiet
import Derived.Deep.RegionHeld3
namespace Go.Proofs.YtfkbjniodomdjaaDoor
open Go.RowKit Go.Shelf Go.Lib
attribute [local go_sem] Oper.semAt_some

theorem run_mkn (w : World) : (Instr.makeMap 29 none).run Tryd.prog w = .ok (.map (some w.heap.size)) (w.alloc (.map #[] 0)) := by
  simp [Instr.makeMap]

set_option maxRecDepth 100000 in
set_option maxHeartbeats 40000000 in
theorem pathTables_law (os : List OpP) (A : Option Addr) (cap : Nat) (stop : Int) (w : World) (hr : RdP w A os) (_hlm : os.length ≤ maxLen) (hm : MX w) :
    Calls Tryd.prog 3 #[.slice A os.length cap, .int .i64 stop] w fun e w' => e = .returned (.bool true) ∧ Below w.heap.size w w' := by
  refine (callsIn_wide (n := 9)).1 ?_
  refine callsIn_of_wp_marks Tryd.func3 rfl trivial ?_ rfl
  simp only [Tryd.ntmps3, List.size_toArray, List.length_cons, List.length_nil, Nat.reduceAdd, Nat.reduceSub, Array.replicate_succ, Array.replicate_zero, List.push_toArray, List.append_toArray, List.nil_append, List.cons_append]
  obtain ⟨W0, hW0⟩ : ∃ W0, (w.alloc (.cells #[.int .i64 stop] 3)).alloc (.cells #[.bool false] 4) = W0 := ⟨_, rfl⟩
  have hs0 : W0.heap.size = w.heap.size + 2 := by rw [← hW0]; simp
  have hB0 : Below w.heap.size w W0 := by rw [← hW0]; exact ((Below.refl _ w).alloc (Nat.le_refl _) _).alloc (by simp) _
  have b0 : W0.heap[w.heap.size]? = some (.cells #[.int .i64 stop] 3 (0, 0)) := by
    rw [← hW0, Below.heap_alloc _ _ _ (by simp)]
    exact heap_alloc_new w _
  have b1 : W0.heap[w.heap.size + 1]? = some (.cells #[.bool false] 4 (0, 0)) := by
    rw [← hW0]
    have := heap_alloc_new (w.alloc (.cells #[.int .i64 stop] 3)) (.cells #[.bool false] 4)
    simpa using this
  have KH := Lib.hid (head6_any W0 (hm.below (hB0.mono (Nat.le_refl _))))
  unfold maxLen at _hlm
  refine wpIn_wide.2 ?_
  go_wp2_with fail
  refine KH.out.mono ?_
  rintro e w1 ⟨rfl, hb1⟩
  have hmk := fun w => run_mkn w
  have hw1 : w.heap.size + 2 ≤ w1.heap.size := by have := hb1.size; omega
  have hB1 : Below w.heap.size w w1 := hB0.trans (hb1.mono (by omega))
  have d0 := (hb1.block _ (by omega)).trans b0
  have d1 := (hb1.block _ (by omega)).trans b1
  have hP0 : PT w stop w1.heap.size w1.heap.size (.slice none 0 0) (.slice none 0 0) [] (fun _ => none) (.slice (some ⟨w1.heap.size + 1, 0, none⟩) 0 0) 0 (((((w1.alloc (.cells #[.slice none 0 0, .slice none 0 0] 28)).alloc (.cells #[] 9)).alloc (.cells #[.slice (some ⟨w1.heap.size + 1, 0, none⟩) 0 0] 25)).alloc (.map #[] 0)).alloc (.cells #[.map (some (w1.heap.size + 1 + 1 + 1))] 29)) := by
    have hs := hB1.size
    refine ⟨⟨?_, World.ownsRow_nil _ _ _ _, World.ownsRow_nil _ _ _ _, Nat.le_refl _⟩, ?_, ?_, ?_, ?_, ?_, ?_, ?_, ?_, hw1, List.Pairwise.nil, fun s => by simp⟩
    · rw [Below.heap_alloc _ _ _ (by first | (simp; done) | (simp; omega)), Below.heap_alloc _ _ _ (by first | (simp; done) | (simp; omega)), Below.heap_alloc _ _ _ (by first | (simp; done) | (simp; omega)), Below.heap_alloc _ _ _ (by simp)]
      exact heap_alloc_new w1 _
    · have := (((World.ownsRow_made (base := w1.heap.size) (e := 9) (size := 1) (w1.alloc (.cells #[.slice none 0 0, .slice none 0 0] 28)) #[] 0 (by simp) (Nat.zero_le _) (by simp)).alloc (.cells #[.slice (some ⟨w1.heap.size + 1, 0, none⟩) 0 0] 25)).alloc (.map #[] 0)).alloc (.cells #[.map (some (w1.heap.size + 1 + 1 + 1))] 29)
      rw [World.size_alloc] at this
      exact this
    · rintro g e (h | h | h)
      · simp [Value.ownBlock] at e; omega
      · cases h
      · cases h
    · rw [Below.heap_alloc _ _ _ (by first | (simp; done) | (simp; omega)), Below.heap_alloc _ _ _ (by simp)]
      have := heap_alloc_new ((w1.alloc (.cells #[.slice none 0 0, .slice none 0 0] 28)).alloc (.cells #[] 9)) (.cells #[.slice (some ⟨w1.heap.size + 1, 0, none⟩) 0 0] 25)
      simpa using this
    · have := heap_alloc_new ((((w1.alloc (.cells #[.slice none 0 0, .slice none 0 0] 28)).alloc (.cells #[] 9)).alloc (.cells #[.slice (some ⟨w1.heap.size + 1, 0, none⟩) 0 0] 25)).alloc (.map #[] 0)) (.cells #[.map (some (w1.heap.size + 1 + 1 + 1))] 29)
      simpa using this
    · have := MapN.new (((w1.alloc (.cells #[.slice none 0 0, .slice none 0 0] 28)).alloc (.cells #[] 9)).alloc (.cells #[.slice (some ⟨w1.heap.size + 1, 0, none⟩) 0 0] 25))
      have h2 := this.ofBlock (w' := ((((w1.alloc (.cells #[.slice none 0 0, .slice none 0 0] 28)).alloc (.cells #[] 9)).alloc (.cells #[.slice (some ⟨w1.heap.size + 1, 0, none⟩) 0 0] 25)).alloc (.map #[] 0)).alloc (.cells #[.map (some (w1.heap.size + 1 + 1 + 1))] 29)) (Below.heap_alloc _ _ _ (by simp))
      simpa using h2
    · rw [Below.heap_alloc _ _ _ (by first | (simp; done) | (simp; omega)), Below.heap_alloc _ _ _ (by first | (simp; done) | (simp; omega)), Below.heap_alloc _ _ _ (by first | (simp; done) | (simp; omega)), Below.heap_alloc _ _ _ (by first | (simp; done) | (simp; omega)), Below.heap_alloc _ _ _ (by omega)]; exact d1
    · rw [Below.heap_alloc _ _ _ (by first | (simp; done) | (simp; omega)), Below.heap_alloc _ _ _ (by first | (simp; done) | (simp; omega)), Below.heap_alloc _ _ _ (by first | (simp; done) | (simp; omega)), Below.heap_alloc _ _ _ (by first | (simp; done) | (simp; omega)), Below.heap_alloc _ _ _ (by omega)]; exact d0
    · exact ((((hB1.alloc hs _).alloc (by simp; omega) _).alloc (by simp; omega) _).alloc (by simp; omega) _).alloc (by simp; omega) _
  have HP0 := Lib.hid hP0
  have HR := Lib.hid hr
  have HT0 := Lib.hid hw1
  clear hP0 hr hw1 d0 d1 b0 b1 hW0 hs0 hB0 hB1 hb1 KH hm
  go_upto_block 0 with fail
  obtain ⟨T0, hT0⟩ : ∃ T0, w1.heap.size = T0 := ⟨_, rfl⟩
  obtain ⟨W0, hW0⟩ : ∃ W0, ((((w1.alloc (.cells #[.slice none 0 0, .slice none 0 0] 28)).alloc (.cells #[] 9)).alloc (.cells #[.slice (some ⟨w1.heap.size + 1, 0, none⟩) 0 0] 25)).alloc (.map #[] 0)).alloc (.cells #[.map (some (w1.heap.size + 1 + 1 + 1))] 29) = W0 := ⟨_, rfl⟩
  rw [hW0] at HP0 ⊢
  rw [hT0] at HP0 HT0 ⊢
  clear hW0 hT0 hmk w1
  go_cut [5] from 8 to 173 (fun tv wx => ∃ (i T : Nat) (v1 v2 vn : Value) (ns : List ByteArray) (V : ByteArray → Option Int), i ≤ 60 ∧ tv = .pointer (some ⟨T, 0, none⟩) ∧ Hid (PT w stop T0 T v1 v2 ns V vn i wx) ∧ Hid (ns.length ≤ i ∧ (∀ s ∈ ns, s.size ≤ 100) ∧ vn.ownBlock ≠ none))
  case rest =>
    obtain ⟨i, T, v1, v2, vn, ns, V, hi60, rfl, HP, HL⟩ := hcut
    obtain ⟨bq, cn, rfl⟩ : ∃ bq cn, vn = .slice (some ⟨bq, 0, none⟩) ns.length cn := by
      have h3 := HL.out.2.2
      rcases HP.out.row.2 with ⟨h1, _⟩ | ⟨g, cap, cur, h1, _⟩
      · rw [h1] at h3; exact absurd rfl h3
      · exact ⟨g, cap, h1⟩
    have hnl : ns.length ≤ 60 := by have := HL.out.1; omega
    have hzl : (ns.zip (thg ns V)).length = ns.length := by simp [thg]
    have HZL := Lib.hid hzl
    have KA := Lib.hid (fun W => allSI_any T W)
    clear hzl
    go_wp2_with fail
    refine (KA.out _).mono ?_
    rintro e w3 ⟨rfl, rfl⟩
    obtain ⟨W1, hW1⟩ : ∃ W1, (wc.alloc (.cells #[.int .i64 0] 3)).alloc (.cells #[.pointer (some ⟨T, 0, none⟩)] 24) = W1 := ⟨_, rfl⟩
    have hs1 : W1.heap.size = wc.heap.size + 2 := by rw [← hW1]; simp
    have hb1 : Below wc.heap.size wc W1 := by rw [← hW1]; exact ((Below.refl _ wc).alloc (Nat.le_refl _) _).alloc (by simp) _
    have c0 : W1.heap[wc.heap.size]? = some (.cells #[.int .i64 0] 3 (0, 0)) := by
      rw [← hW1, Below.heap_alloc _ _ _ (by simp)]
      exact heap_alloc_new wc _
    have c2 : W1.heap[wc.heap.size + 1]? = some (.cells #[.pointer (some ⟨T, 0, none⟩)] 24 (0, 0)) := by
      rw [← hW1]
      have := heap_alloc_new (wc.alloc (.cells #[.int .i64 0] 3)) (.cells #[.pointer (some ⟨T, 0, none⟩)] 24)
      simpa using this
    have hpt := HP.out.below hb1
    have hPF : PF w stop T0 T v1 v2 ns V (.slice (some ⟨bq, 0, none⟩) ns.length cn) i wc.heap.size 0 W1 := ⟨hpt, c0, HP.out.sz, fun j hj => (HP.out.tab.in_ j hj).2, fun g e => (HP.out.row.lt g e).2⟩
    have hSrc : SrcSI (wc.heap.size + 1) T0 T v1 v2 ns (thg ns V) W1 := ⟨c2, hpt.tab⟩
    obtain ⟨R, hR⟩ : ∃ R, wc.heap.size = R := ⟨_, rfl⟩
    rw [hR] at hPF hSrc hs1
    rw [hW1]
    have HPF := Lib.hid hPF
    have HS := Lib.hid hSrc
    have HSM := Lib.hid HL.out.2.1
    clear hW1 hb1 c0 c2 hpt hPF hSrc HP HL HP0
    go_wp2
    clear hR
    refine (wpIn_wide (n := 9)).1 ?_
    refine wpIn_rangeFunc_ownF (F := Fence.wide) (n := 9) rfl (by omega) (gf := 44) (lb := #[.pointer (some ⟨R + 1, 0, none⟩)]) rfl trivial (enters_of Tryd.func44 (by kernel_rfl) rfl)
      (iterSI_stops 8 (by omega) (R + 1) T0 T v1 v2 ns (thg ns V) (by omega) encSI (fun _ _ => rfl) W1 HS.out) srcSI_kt (fun W l o o' _ h1 h2 _ => srcSI_kb W l o o' h1 h2) (Below.refl _ _) (fun _ => rfl)
      (fun pre W => PF w stop T0 T v1 v2 ns V (.slice (some ⟨bq, 0, none⟩) ns.length cn) i R pre.length W)
      (fun _ pre _ => ¬ pre <+: ns.zip (thg ns V))
      (PF.own (by omega) (fun pre => pre.length))
      (fun _ _ _ _ _ hs _ _ => hs)
      HPF.out
      ?a1 ?assign ?body ?done ?stop
    case assign =>
      intro l x W K hK
      gi_wp2
      exact hK
    case body =>
      rintro l pre ⟨y, z⟩ W hI hlt2
      have HI := Lib.hid hI
      have HNX := Lib.hid (@next_of ns V pre (y, z))
      obtain ⟨c0, f0, c1, c2, c3, f3, _, _⟩ := hI.cells
      obtain ⟨m, hmm⟩ : ∃ m, pre.length = m := ⟨_, rfl⟩
      rw [hmm] at c0 HNX HI hlt2
      have HMM := Lib.hid hmm
      have hgt := hI.gt
      have hne1 : ¬ w.heap.size + 1 = R := by have := hI.pt.lt; omega
      clear hI hmm
      by_cases hm : ns.length ≤ m
      · have d0 : decide ((ns.length : Int) ≤ (m : Int)) = true := decide_eq_true (by omega)
        have d0' : decide (ns.length ≤ m) = true := decide_eq_true hm
        have HX := Lib.hid (show ¬ pre ++ [(y, z)] <+: ns.zip (thg ns V) from fun h => by have := (List.getElem?_eq_some_iff.1 (HNX.out h).1).1; omega)
        gi_wp2
        exact ⟨KeepsOthers.setCell _ _ _, HX.out⟩
      · have d0 : decide ((ns.length : Int) ≤ (m : Int)) = false := decide_eq_false (by omega)
        have d0' : decide (ns.length ≤ m) = false := decide_eq_false hm
        have hml : m < ns.length := by omega
        obtain ⟨u, hu⟩ : ∃ u, ns[m]? = some u := ⟨_, List.getElem?_eq_getElem hml⟩
        have cu := HI.out.name hu
        have hus := HSM.out u (List.mem_of_getElem? hu)
        have lk : (Instr.lookup 29 (.map (some (T0 + 1 + 1 + 1))) (.string u) false).run Tryd.prog W = .ok (.int .i64 ((V u).getD 0)) W := HI.out.pt.mp.look0 u (by unfold maxLen; omega)
        have HU := Lib.hid hu
        clear hu
        by_cases hy : y = u
        · subst hy
          have e1 : (y.toList != y.toList) = false := by simp
          have e2 : (y.toList == y.toList) = true := by simp
          obtain ⟨zv, hzv⟩ : ∃ zv, (V y).getD 0 = zv := ⟨_, rfl⟩
          rw [hzv] at lk
          have HZV := Lib.hid hzv
          clear hzv
          by_cases hz : z = zv
          · have z1 : (z != zv) = false := by simp [hz]
            have z2 : (z == zv) = true := by simp [hz]
            have HZ := Lib.hid hz
            clear hz
            gi_wp2
            refine ⟨KeepsOthers.setCell _ _ _, fun hs => hs.keep (S := fun j => j = R) (Frm.set _ rfl) (by omega) (fun k hk e => by have := HI.out.ts k hk; omega), ?_⟩
            show PF w stop T0 T v1 v2 ns V (.slice (some ⟨bq, 0, none⟩) ns.length cn) i R (pre ++ [(y, z)]).length _
            rw [List.length_append, HMM.out]
            exact HI.out.set (m + 1)
          · have z1 : (z != zv) = true := by simp [hz]
            have z2 : (z == zv) = false := by simp [hz]
            have HX := Lib.hid (show ¬ pre ++ [(y, z)] <+: ns.zip (thg ns V) from fun h => by have := (HNX.out h).2; rw [HZV.out] at this; exact hz this)
            clear hz
            gi_wp2
            exact ⟨KeepsOthers.setCell _ _ _, HX.out⟩
        · have hyl : ¬ y.toList = u.toList := fun e => by
            rw [ByteArray.toList_eq, ByteArray.toList_eq] at e
            exact hy (ByteArray.ext (Array.toList_inj.1 e))
          have e1 : (y.toList != u.toList) = true := by rw [bne_iff_ne]; exact hyl
          have e2 : (y.toList == u.toList) = false := by rw [beq_eq_false_iff_ne]; exact hyl
          have HX := Lib.hid (show ¬ pre ++ [(y, z)] <+: ns.zip (thg ns V) from fun h => by have := (HNX.out h).1; rw [HU.out] at this; injection this with this; exact hy this.symm)
          clear hy hyl
          gi_wp2
          exact ⟨KeepsOthers.setCell _ _ _, HX.out⟩
    case stop =>
      rintro D c pre W _ hpre h _
      exact absurd hpre h
    case done =>
      rintro D xs W hD rfl hI hK
      rw [HZL.out] at hI
      have KY := Lib.hid (keys_any W hI.pt.tab (by omega))
      have HI := Lib.hid hI
      have HK := Lib.hid hK
      have hDR : R < D := by omega
      clear hI hK
      go_wp2_with fail
      refine KY.out.mono ?_
      rintro e w4 ⟨v', rfl, hown4, hb4⟩
      obtain ⟨A4, c4, hv4⟩ := own_slX hown4
      subst hv4
      have HI4 := Lib.hid (HI.out.below hb4)
      have HK4 := Lib.hid ((hb4.block D (Array.getElem?_eq_some_iff.1 HK.out).1).trans HK.out)
      have HX4 := Lib.hid (rdx_own hown4)
      have tl : ((ns.length : Int) != (ns.length : Int)) = false := by simp
      obtain ⟨_, _, c1, _, _, _, _, _⟩ := HI4.out.cells
      clear hown4 hb4 KY HI HK hs1 HPF HS
      go_wp2
      go_loopw [208] (fun kv wx => ∃ (k q : Nat), k ≤ ns.length ∧ kv = .int .i64 k ∧ wx = w4.drewN q) (fun kv _ => ns.length - (intOf kv).toNat)
      case atStart => exact ⟨0, 0, Nat.zero_le _, rfl, rfl⟩
      case round =>
        obtain ⟨k, q, hk, rfl, rfl⟩ := hrel
        obtain ⟨wz, hwz⟩ : ∃ wz, w4.drewN q = wz := ⟨_, rfl⟩
        rw [hwz]
        have HIz : Hid (PF w stop T0 T v1 v2 ns V (.slice (some ⟨bq, 0, none⟩) ns.length cn) i R ns.length wz) := Lib.hid (by rw [← hwz]; exact HI4.out.below (below_drewN (Below.refl _ w4) q))
        obtain ⟨_, _, c1z, _, _, _, cst, fst⟩ := HIz.out.cells
        by_cases hkl : k < ns.length
        · obtain ⟨y, hy⟩ : ∃ y, ns[k]? = some y := ⟨_, List.getElem?_eq_getElem hkl⟩
          have cy := HIz.out.name hy
          have HX5 := HX4.out
          rcases HX5 with h | ⟨b4, o4, rfl, _, hc4⟩
          · rw [h] at hkl; exact absurd hkl (Nat.not_lt_zero _)
          · have cy4 : wz.cell? ⟨b4, o4 + k, none⟩ = some (.string y) := by rw [← hwz]; exact hc4 k y hy
            have e1 : (y.toList != y.toList) = false := by simp
            have e2 : (y.toList == y.toList) = true := by simp
            clear hc4 hy
            go_wp2_with fail
            go_quiet (fail)
            go_wp2
            go_roundw
            case rel => exact ⟨k + 1, q + nq, by omega, by go_num, by rw [← hwz]; simp [World.drewN, Nat.add_assoc]⟩
            case measure => simp [intOf]; omega
        · obtain rfl : k = ns.length := by omega
          have h7 := i64_and7 stop
          obtain ⟨st, hst⟩ : ∃ st : Nat, stop % 8 = (st : Int) := ⟨(stop % 8).toNat, by omega⟩
          rw [hst] at h7
          have hI5 : PF w st T0 T v1 v2 ns V (.slice (some ⟨bq, 0, none⟩) ns.length cn) i R ns.length (wz.setCell ⟨w.heap.size, 0, none⟩ (.int .i64 st)) :=
            ⟨HIz.out.pt.restop st, (Below.heap_setCell wz ⟨w.heap.size, 0, none⟩ _ R (by have := HIz.out.gt; have := HIz.out.pt.lt; simp; omega)).trans HIz.out.kb, HIz.out.gt, HIz.out.ts, HIz.out.vb⟩
          have hDz : wz.heap[D]? = some (.deferred (some [])) := by rw [← hwz]; exact HK4.out
          have hDl : D < wz.heap.size := (Array.getElem?_eq_some_iff.1 hDz).1
          have hD5 : (wz.setCell ⟨w.heap.size, 0, none⟩ (.int .i64 st)).heap[D]? = some (.deferred (some [])) := (Below.heap_setCell wz ⟨w.heap.size, 0, none⟩ _ D (by have := HIz.out.gt; have := HIz.out.pt.lt; simp; omega)).trans hDz
          have hs5 : (wz.setCell ⟨w.heap.size, 0, none⟩ (.int .i64 st)).heap.size = wz.heap.size := by simp [World.setCell]
          obtain ⟨w5, hw5⟩ : ∃ w5, wz.setCell ⟨w.heap.size, 0, none⟩ (.int .i64 st) = w5 := ⟨_, rfl⟩
          rw [hw5] at hI5 hD5 hs5
          have HI5 := Lib.hid hI5
          have HD5 := Lib.hid hD5
          have HDL := Lib.hid (show D < w5.heap.size by omega)
          have hst8 : st < 8 := by omega
          clear hst hI5 hD5 hs5 hDz hDl hwz HX4 HI4 HK4
          go_wp2_with fail
          refine (KA.out _).mono ?_
          rintro e w6 ⟨rfl, rfl⟩
          obtain ⟨W6, hW6⟩ : ∃ W6, (w5.alloc (.cells #[.int .i64 0] 3)).alloc (.cells #[.pointer (some ⟨T, 0, none⟩)] 24) = W6 := ⟨_, rfl⟩
          have hs6 : W6.heap.size = w5.heap.size + 2 := by rw [← hW6]; simp
          have hb6 : Below w5.heap.size w5 W6 := by rw [← hW6]; exact ((Below.refl _ w5).alloc (Nat.le_refl _) _).alloc (by simp) _
          have b0 : W6.heap[w5.heap.size]? = some (.cells #[.int .i64 0] 3 (0, 0)) := by
            rw [← hW6, Below.heap_alloc _ _ _ (by simp)]
            exact heap_alloc_new w5 _
          have b2 : W6.heap[w5.heap.size + 1]? = some (.cells #[.pointer (some ⟨T, 0, none⟩)] 24 (0, 0)) := by
            rw [← hW6]
            have := heap_alloc_new (w5.alloc (.cells #[.int .i64 0] 3)) (.cells #[.pointer (some ⟨T, 0, none⟩)] 24)
            simpa using this
          have hI6 := HI5.out.below hb6
          have hP2 : P2 w st T0 T v1 v2 ns V (.slice (some ⟨bq, 0, none⟩) ns.length cn) i R ns.length D w5.heap.size 0 W6 := ⟨hI6, b0, (hb6.block D HDL.out).trans HD5.out, hDR, HDL.out⟩
          have hSrc2 : SrcSI (w5.heap.size + 1) T0 T v1 v2 ns (thg ns V) W6 := ⟨b2, hI6.pt.tab⟩
          obtain ⟨R2, hR2⟩ : ∃ R2, w5.heap.size = R2 := ⟨_, rfl⟩
          rw [hR2] at hP2 hSrc2 hs6
          have HP2 := Lib.hid hP2
          have HS2 := Lib.hid hSrc2
          clear hb6 b0 b2 hI6 hP2 hSrc2 KA HI5 HD5 HDL HIz c1z cst fst h7
          go_wp2
          refine (wpIn_wide (n := 9)).1 ?_
          refine wpIn_rangeFunc_ownF (F := Fence.wide) (n := 9) rfl (by omega) (gf := 44) (lb := #[.pointer (some ⟨R2 + 1, 0, none⟩)]) rfl trivial (enters_of Tryd.func44 (by kernel_rfl) rfl)
            (iterSI_stops 8 (by omega) (R2 + 1) T0 T v1 v2 ns (thg ns V) (by omega) encSI (fun _ _ => rfl) W6 HS2.out) srcSI_kt (fun W l o o' _ h1 h2 _ => srcSI_kb W l o o' h1 h2) (Below.refl _ _) (fun _ => rfl)
            (fun pre W => P2 w st T0 T v1 v2 ns V (.slice (some ⟨bq, 0, none⟩) ns.length cn) i R ns.length D R2 pre.length W ∧ pre.length ≤ st)
            (fun c pre W => (c = .exit 11 ∧ pre.length = st + 1) ∧ P2 w st T0 T v1 v2 ns V (.slice (some ⟨bq, 0, none⟩) ns.length cn) i R ns.length D R2 (pre.length - 1) W)
            (OwnFrom.and (P2.own (by omega) (fun pre => pre.length)) (fun _ _ _ _ h _ _ => h))
            (fun c => OwnFrom.and (fun _ _ _ _ h _ _ => h) (P2.own (by omega) (fun pre => pre.length - 1)))
            ⟨HP2.out, by simp⟩
            ?a2 ?assign2 ?body2 ?done2 ?stop2
          case assign2 =>
            intro l x W K hK
            gi_wp2
            exact hK
          case body2 =>
            rintro l pre ⟨y, z⟩ W ⟨hI, hps⟩ hlt2
            obtain ⟨_, _, _, _, _, _, cs, _⟩ := hI.pf.cells
            have cn2 : W.cell? ⟨R2, 0, none⟩ = some (.int .i64 pre.length) := by rw [cell_of_row _ _ _ _ _ _ hI.kb]; rfl
            have fn2 : W.frozen? ⟨R2, 0, none⟩ = false := by simp [World.frozen?, hI.kb]
            have HI2 := Lib.hid hI
            obtain ⟨k2, hk2⟩ : ∃ k2, pre.length = k2 := ⟨_, rfl⟩
            rw [hk2] at cn2 HI2 hps
            have HK2 := Lib.hid hk2
            clear hI hk2 hlt2
            by_cases hks : k2 = st
            · have d0 : (((k2 : Nat) : Int) == (st : Int)) = true := by simp [hks]
              have d0' : (k2 == st) = true := by simp [hks]
              have HKS := Lib.hid hks
              clear hks
              gi_wp2
              refine ⟨KeepsOthers.refl _, ⟨rfl, by rw [List.length_append, HK2.out, HKS.out]; rfl⟩, ?_⟩
              show P2 _ _ _ _ _ _ _ _ _ _ _ _ _ _ ((pre ++ [(y, z)]).length - 1) _
              rw [List.length_append, HK2.out]
              exact HI2.out
            · have d0 : (((k2 : Nat) : Int) == (st : Int)) = false := by rw [beq_eq_false_iff_ne]; omega
              have d0' : (k2 == st) = false := by rw [beq_eq_false_iff_ne]; omega
              have hkl2 : k2 + 1 ≤ st := by omega
              clear hks
              gi_wp2
              refine ⟨KeepsOthers.setCell _ _ _, fun hs => hs.keep (S := fun j => j = R2) (Frm.set _ rfl) (by omega) (fun k hk e => by have := HI2.out.pf.ts k hk; have := HI2.out.h1; have := HI2.out.h2; omega), ?_, by rw [List.length_append, HK2.out]; exact hkl2⟩
              show P2 _ _ _ _ _ _ _ _ _ _ _ _ _ _ (pre ++ [(y, z)]).length _
              rw [List.length_append, HK2.out]
              exact HI2.out.set (k2 + 1)
          case done2 =>
            rintro D2 xs2 W2 hD2 rfl ⟨hI2, hle2⟩ hK2
            rw [HZL.out] at hI2 hle2
            have DSZ : R2 < D2 := by omega
            have q := law_end hI2 hK2 DSZ
            obtain ⟨q1, q2, q3, q4⟩ := q
            obtain ⟨r0, _, r1, _, r3, fr, rs, _⟩ := hI2.pf.cells
            have ck : W2.cell? ⟨R2, 0, none⟩ = some (.int .i64 ns.length) := by rw [cell_of_row _ _ _ _ _ _ hI2.kb]; rfl
            have Q1 := Lib.hid q1
            have Q2 := Lib.hid q2
            have Q3 := Lib.hid q3
            have Q4 := Lib.hid q4
            clear hI2 hK2 q1 q2 q3 q4
            have hmn : ((ns.length : Int) == min (st : Int) (ns.length : Int)) = true := by rw [beq_iff_eq]; omega
            clear hle2
            go_wp2
            refine ⟨by simp, .inl ⟨_, _, rfl, run_takeDeferred Q2.out, ?_⟩⟩
            refine ⟨by simp, .inl ⟨_, _, rfl, run_takeDeferred Q3.out, ?_⟩⟩
            refine ⟨.bool true, ?_, rfl, Q1.out.2⟩
            have q4 := Q4.out
            simp [results, Tryd.f3, go_sem, q4]
          case stop2 =>
            rintro D2 c pre W2 hD2 hpre ⟨⟨rfl, hlen⟩, hI2⟩ hK2
            have hpl := hpre.length_le
            rw [HZL.out, hlen] at hpl
            rw [hlen, Nat.add_sub_cancel] at hI2
            have DSZ : R2 < D2 := by omega
            clear hpre hlen
            refine wpIn_wide.2 ?_
            have q := law_end hI2 hK2 DSZ
            obtain ⟨q1, q2, q3, q4⟩ := q
            obtain ⟨r0, _, r1, _, r3, fr, rs, _⟩ := hI2.pf.cells
            have ck : W2.cell? ⟨R2, 0, none⟩ = some (.int .i64 st) := by rw [cell_of_row _ _ _ _ _ _ hI2.kb]; rfl
            have Q1 := Lib.hid q1
            have Q2 := Lib.hid q2
            have Q3 := Lib.hid q3
            have Q4 := Lib.hid q4
            clear hI2 hK2 q1 q2 q3 q4
            have hmn : ((st : Int) == min (st : Int) (ns.length : Int)) = true := by rw [beq_iff_eq]; omega
            go_wp2
            refine ⟨by simp, .inl ⟨_, _, rfl, run_takeDeferred Q2.out, ?_⟩⟩
            refine ⟨by simp, .inl ⟨_, _, rfl, run_takeDeferred Q3.out, ?_⟩⟩
            refine ⟨.bool true, ?_, rfl, Q1.out.2⟩
            have q4 := Q4.out
            simp [results, Tryd.f3, go_sem, q4]
  go_wp2_with fail
  go_loopw [8, 5] (fun iv tv wr => ∃ (i T : Nat) (v1 v2 vn : Value) (ns : List ByteArray) (V : ByteArray → Option Int), i ≤ os.length ∧ i ≤ 60 ∧ iv = .int .i64 i ∧ tv = .pointer (some ⟨T, 0, none⟩) ∧ Hid (PT w stop T0 T v1 v2 ns V vn i wr) ∧ Hid (ns.length ≤ i ∧ (∀ s ∈ ns, s.size ≤ 100) ∧ vn.ownBlock ≠ none)) (fun iv _ _ => 60 - (intOf iv).toNat)
  case atStart => exact ⟨0, T0, _, _, _, [], _, Nat.zero_le _, by omega, rfl, rfl, HP0, Lib.hid ⟨Nat.le_refl _, (fun s hs => by cases hs), by simp [Value.ownBlock]⟩⟩
  case round =>
    obtain ⟨i, T, v1, v2, vn, ns, V, hil, hi60, rfl, rfl, HP, HL⟩ := hrel
    by_cases hgo : i < os.length ∧ i < 60
    · obtain ⟨hlt, hlt60⟩ := hgo
      obtain ⟨o, ho⟩ : ∃ o, os[i]? = some o := ⟨_, List.getElem?_eq_getElem hlt⟩
      obtain ⟨b, off, hA, hbl, k0, k1, k2, hsz⟩ := HR.out.at_ ho
      have q0 := (HP.out.bw.cell (p := ⟨b, off + i * 3, none⟩) hbl).trans k0
      have q1 := (HP.out.bw.cell (p := ⟨b, off + i * 3 + 1, none⟩) hbl).trans k1
      have q2 := (HP.out.bw.cell (p := ⟨b, off + i * 3 + 2, none⟩) hbl).trans k2
      subst hA
      obtain ⟨W1, hW1⟩ : ∃ W1, wr.alloc (.cells #[.int .i64 o.k, .string o.s, .int .i64 o.n] 31) = W1 := ⟨_, rfl⟩
      have hb1 : Below wr.heap.size wr W1 := by rw [← hW1]; exact (Below.refl _ wr).alloc (Nat.le_refl _) _
      have hO : W1.heap[wr.heap.size]? = some (.cells #[.int .i64 o.k, .string o.s, .int .i64 o.n] 31 (0, 0)) := by rw [← hW1]; exact heap_alloc_new wr _
      have HP1 := Lib.hid (HP.out.below hb1)
      have HO := Lib.hid hO
      have HB1 := Lib.hid hb1
      obtain ⟨O, hOz⟩ : ∃ O, wr.heap.size = O := ⟨_, rfl⟩
      have p0 : W1.cell? ⟨O, 0, none⟩ = some (.int .i64 o.k) := by rw [← hOz, cell_of_row _ _ _ _ _ _ hO]; rfl
      have p1 : W1.cell? ⟨O, 1, none⟩ = some (.string o.s) := by rw [← hOz, cell_of_row _ _ _ _ _ _ hO]; rfl
      have p2 : W1.cell? ⟨O, 2, none⟩ = some (.int .i64 o.n) := by rw [← hOz, cell_of_row _ _ _ _ _ _ hO]; rfl
      have g60 : decide ((i : Int) < 60) = true := decide_eq_true (by omega)
      have lk : (Instr.lookup 29 (.map (some (T0 + 1 + 1 + 1))) (.string o.s) true).run Tryd.prog W1 = .ok (.tuple #[.int .i64 ((V o.s).getD 0), .bool (V o.s).isSome]) W1 := HP1.out.mp.look o.s hsz
      obtain ⟨cnb, cmb, crs, cst⟩ := HP1.out.cells
      obtain ⟨An, cn, hvn, _, _, _⟩ := own_sl HP1.out.row
      have hl60 : ns.length ≤ 60 := by have := HL.out.1; omega
      have hln : ns.length < 1000000 := by omega
      rw [hvn] at cnb
      have HVN := Lib.hid hvn
      -- how a round ends, in whatever world: the lengths agree
      clear k0 k1 k2 ho hO hb1 hvn
      by_cases hlong : 100 < o.s.size
      · have g0 : decide ((100 : Int) < (o.s.size : Int)) = true := decide_eq_true (by omega)
        have HPm := Lib.hid (HP1.out.more (Nat.le_succ i))
        clear hlong
        go_wp2
        go_roundw
        case rel => exact ⟨i + 1, T, v1, v2, vn, ns, V, by omega, by omega, by go_num, rfl, HPm, Lib.hid ⟨by have := HL.out.1; omega, HL.out.2⟩⟩
        case measure => simp [intOf]; omega
      · have g0 : decide ((100 : Int) < (o.s.size : Int)) = false := decide_eq_false (by omega)
        have hs100 : o.s.size ≤ 100 := by omega
        clear hlong
        by_cases h1 : o.k = 1
        · have e0 : (o.k == 0) = false := by rw [beq_eq_false_iff_ne]; omega
          have e1 : (o.k == 1) = true := by rw [beq_iff_eq]; exact h1
          clear h1
          by_cases hin : o.s ∈ ns
          · have ht : (V o.s).isSome = true := (HP1.out.mem o.s).2 hin
            rw [ht] at lk
            have KG := get_some o.s W1 HP1.out.tab HP1.out.srt hin hln
            rw [thg_at ns V ordS HP1.out.srt hin] at KG
            have HKG := Lib.hid KG
            obtain ⟨z, hz⟩ : ∃ z, (V o.s).getD 0 = z := ⟨_, rfl⟩
            rw [hz] at lk HKG
            have tz : (z != z) = false := by simp
            clear KG hz ht hin
            go_wp2_with fail
            refine HKG.out.mono ?_
            rintro e w2 ⟨rfl, hb2⟩
            have HP2 := Lib.hid ((HP1.out.below hb2).more (Nat.le_succ i))
            have cnb2 := HP2.out.cells.1
            rw [HVN.out] at cnb2
            have tl : ((ns.length : Int) != (ns.length : Int)) = false := by simp
            have HT2 := Lib.hid (fun k => HP2.out.tab.below (W' := w2.drewN k) (below_drewN (Below.refl _ w2) k))
            have HB2 := Lib.hid (fun k => HP2.out.below (W' := w2.drewN k) (below_drewN (Below.refl _ w2) k))
            clear cnb cmb crs cst hb2
            go_wp2_with fail
            go_quiet ((go_at_call 13; refine Calls.quiet_of_same (len_any _ (HT2.out _))))
            go_wp2
            go_roundw
            case rel => exact ⟨i + 1, T, v1, v2, vn, ns, V, by omega, by omega, by go_num, rfl, Lib.hid (HB2.out _), Lib.hid ⟨by have := HL.out.1; omega, HL.out.2⟩⟩
            case measure => simp [intOf]; omega
          · have ht : (V o.s).isSome = false := by
              cases hh : (V o.s).isSome with
              | false => rfl
              | true => exact absurd ((HP1.out.mem o.s).1 hh) hin
            have hv0 : (V o.s).getD 0 = 0 := by
              cases hh : V o.s with
              | none => rfl
              | some z => rw [hh] at ht; cases ht
            rw [ht, hv0] at lk
            have HKG := Lib.hid (get_none o.s W1 HP1.out.tab HP1.out.srt hin hln)
            clear ht hv0 hin
            go_wp2_with fail
            refine HKG.out.mono ?_
            rintro e w2 ⟨rfl, q, hq⟩
            have hb2 : Below W1.heap.size W1 w2 := by rw [hq]; exact below_drewN (Below.refl _ W1) q
            have HP2 := Lib.hid ((HP1.out.below hb2).more (Nat.le_succ i))
            clear hq
            have cnb2 := HP2.out.cells.1
            rw [HVN.out] at cnb2
            have tl : ((ns.length : Int) != (ns.length : Int)) = false := by simp
            have HT2 := Lib.hid (fun k => HP2.out.tab.below (W' := w2.drewN k) (below_drewN (Below.refl _ w2) k))
            have HB2 := Lib.hid (fun k => HP2.out.below (W' := w2.drewN k) (below_drewN (Below.refl _ w2) k))
            clear cnb cmb crs cst hb2
            go_wp2_with fail
            go_quiet ((go_at_call 13; refine Calls.quiet_of_same (len_any _ (HT2.out _))))
            go_wp2
            go_roundw
            case rel => exact ⟨i + 1, T, v1, v2, vn, ns, V, by omega, by omega, by go_num, rfl, Lib.hid (HB2.out _), Lib.hid ⟨by have := HL.out.1; omega, HL.out.2⟩⟩
            case measure => simp [intOf]; omega
        · by_cases h3 : o.k = 3
          · have e0 : (o.k == 0) = false := by rw [beq_eq_false_iff_ne]; omega
            have e1 : (o.k == 1) = false := by rw [beq_eq_false_iff_ne]; omega
            have e2 : (o.k == 2) = false := by rw [beq_eq_false_iff_ne]; omega
            have e3 : (o.k == 3) = true := by rw [beq_iff_eq]; exact h3
            have HKC := Lib.hid (clone_any W1 HP1.out.tab hln)
            clear h3 h1
            go_wp2_with fail
            refine HKC.out.mono ?_
            rintro e w2 ⟨T', v1', v2', rfl, ht2, hb2⟩
            have hP2 : PT w stop T0 T' v1' v2' ns V vn (i + 1) w2 := by
              have hb := HP1.out.below hb2
              have hs := HP1.out.sz
              refine ⟨Tab.weak ht2 (by omega), hb.row, fun g e hts => ?_, hb.nbx, hb.mbx, hb.mp.mono (Nat.le_succ i), hb.res, hb.stp, hb.bw, hb.lt, hb.srt, hb.mem⟩
              have h1 := (ht2.in_ g hts).1
              have h2 := (HP1.out.row.lt g e).2
              omega
            have HP2 := Lib.hid hP2
            clear hP2 ht2
            have cnb2 := HP2.out.cells.1
            rw [HVN.out] at cnb2
            have tl : ((ns.length : Int) != (ns.length : Int)) = false := by simp
            have HT2 := Lib.hid (fun k => HP2.out.tab.below (W' := w2.drewN k) (below_drewN (Below.refl _ w2) k))
            have HB2 := Lib.hid (fun k => HP2.out.below (W' := w2.drewN k) (below_drewN (Below.refl _ w2) k))
            clear cnb cmb crs cst hb2
            go_wp2_with fail
            go_quiet ((go_at_call 13; refine Calls.quiet_of_same (len_any _ (HT2.out _))))
            go_wp2
            go_roundw
            case rel => exact ⟨i + 1, T', v1', v2', vn, ns, V, by omega, by omega, by go_num, rfl, Lib.hid (HB2.out _), Lib.hid ⟨by have := HL.out.1; omega, HL.out.2⟩⟩
            case measure => simp [intOf]; omega
          · by_cases h4 : o.k = 4
            · have e0 : (o.k == 0) = false := by rw [beq_eq_false_iff_ne]; omega
              have e1 : (o.k == 1) = false := by rw [beq_eq_false_iff_ne]; omega
              have e2 : (o.k == 2) = false := by rw [beq_eq_false_iff_ne]; omega
              have e3 : (o.k == 3) = false := by rw [beq_eq_false_iff_ne]; omega
              have e4 : (o.k == 4) = true := by rw [beq_iff_eq]; exact h4
              have HKC := Lib.hid (clone_any W1 HP1.out.tab hln)
              clear h3 h1 h4
              go_wp2_with fail
              refine HKC.out.mono ?_
              rintro e w3 ⟨T', v1', v2', rfl, ht3, hb3⟩
              have HTS3 := Lib.hid (fun k hk => (ht3.in_ k hk).1)
              have r1 := (hb3.cell (p := ⟨O, 1, none⟩) (World.block_lt_of_cell? _ ⟨O, 1, none⟩ p1)).trans p1
              have r2 := (hb3.cell (p := ⟨O, 2, none⟩) (World.block_lt_of_cell? _ ⟨O, 2, none⟩ p2)).trans p2
              have HSR := Lib.hid HP1.out.srt
              have hOl := World.block_lt_of_cell? _ ⟨O, 1, none⟩ p1
              simp only at hOl
              have HKP := Lib.hid (fun u => put_gen o.s u ht3 HSR.out hln)
              have hb3z := hb3.size
              have HB3 := Lib.hid hb3
              clear p0 p1 p2 ht3 hb3
              go_wp2_with fail
              refine (HKP.out _).mono ?_
              rintro e w4 hT4
              have hb4 : Below W1.heap.size w3 w4 := hT4.below hb3z HTS3.out
              obtain ⟨b4, v1'', v2'', ns4, ts4, rfl, ht4, hs4, hl4, _, hn4⟩ := hT4
              have HTS4 := Lib.hid (fun k hk => by
                rcases hn4 k hk with h | h
                · exact HTS3.out k h
                · exact Nat.le_trans hb3z h)
              have s1 := (hb4.cell (p := ⟨O, 1, none⟩) hOl).trans r1
              have HKD := Lib.hid (drop_gen o.s ht4 hs4 (by omega))
              have hb4z := hb4.size
              have HB4 := Lib.hid hb4
              clear r1 r2 ht4 hs4 hb4 hn4
              go_wp2_with fail
              refine HKD.out.mono ?_
              rintro e w5 hT5
              have hb5 : Below W1.heap.size w4 w5 := hT5.below (by omega) HTS4.out
              obtain ⟨b5, v1c, v2c, ns5, ts5, rfl, ht5, hs5, hl5, _, hn5⟩ := hT5
              have HTS5 := Lib.hid (fun k hk => by
                rcases hn5 k hk with h | h
                · exact HTS4.out k h
                · exact (by omega : W1.heap.size ≤ k))
              have HKE := Lib.hid (put_gen ⟨#[120]⟩ 7 ht5 hs5 (by omega))
              have hb5z := hb5.size
              have HB5 := Lib.hid hb5
              clear s1 ht5 hs5 hb5 hn5
              go_wp2_with fail
              refine HKE.out.mono ?_
              rintro e w2 hT6
              have hb6 : Below W1.heap.size w5 w2 := hT6.below (by omega) HTS5.out
              obtain ⟨b6, v1d, v2d, ns6, ts6, rfl, _, _, _, _, _⟩ := hT6
              have hb2 : Below W1.heap.size W1 w2 := ((HB3.out.trans HB4.out).trans HB5.out).trans hb6
              have HP2 := Lib.hid ((HP1.out.below hb2).more (Nat.le_succ i))
              clear hb6
              have cnb2 := HP2.out.cells.1
              rw [HVN.out] at cnb2
              have tl : ((ns.length : Int) != (ns.length : Int)) = false := by simp
              have HT2 := Lib.hid (fun k => HP2.out.tab.below (W' := w2.drewN k) (below_drewN (Below.refl _ w2) k))
              have HB2 := Lib.hid (fun k => HP2.out.below (W' := w2.drewN k) (below_drewN (Below.refl _ w2) k))
              clear cnb cmb crs cst hb2
              go_wp2_with fail
              go_quiet ((go_at_call 13; refine Calls.quiet_of_same (len_any _ (HT2.out _))))
              go_wp2
              go_roundw
              case rel => exact ⟨i + 1, T, v1, v2, vn, ns, V, by omega, by omega, by go_num, rfl, Lib.hid (HB2.out _), Lib.hid ⟨by have := HL.out.1; omega, HL.out.2⟩⟩
              case measure => simp [intOf]; omega
            · by_cases h0 : o.k = 0
              · have e0 : (o.k == 0) = true := by rw [beq_iff_eq]; exact h0
                clear h0 h1 h3 h4
                by_cases hin : o.s ∈ ns
                · have ht : (V o.s).isSome = true := (HP1.out.mem o.s).2 hin
                  rw [ht] at lk
                  obtain ⟨z, hz⟩ : ∃ z, (V o.s).getD 0 = z := ⟨_, rfl⟩
                  rw [hz] at lk
                  have HKP := Lib.hid (putSI_old o.s o.n W1 HP1.out.tab HP1.out.srt hin hln)
                  have HIN := Lib.hid hin
                  have hOl := World.block_lt_of_cell? _ ⟨O, 1, none⟩ p1
                  simp only at hOl
                  have hO0 : W1.heap[O]? = some (.cells #[.int .i64 o.k, .string o.s, .int .i64 o.n] 31 (0, 0)) := by rw [← hOz]; exact HO.out
                  have HOT := Lib.hid (HP1.out.tab.notTy hO0 (by decide) (by decide) (by decide))
                  have HO0 := Lib.hid hO0
                  clear hz ht hin hO0
                  go_wp2_with fail
                  refine HKP.out.mono ?_
                  rintro e w3 ⟨rfl, ht3, hf3⟩
                  obtain ⟨r1, r2, r3, r4, r5, r6, r7⟩ := HP1.out.far hf3
                  have hO3 : w3.heap[O]? = some (.cells #[.int .i64 o.k, .string o.s, .int .i64 o.n] 31 (0, 0)) := (hf3.block O hOl HOT.out).trans HO0.out
                  have s1 : w3.cell? ⟨O, 1, none⟩ = some (.string o.s) := by rw [cell_of_row _ _ _ _ _ _ hO3]; rfl
                  have s2 : w3.cell? ⟨O, 2, none⟩ = some (.int .i64 o.n) := by rw [cell_of_row _ _ _ _ _ _ hO3]; rfl
                  have cm3 : w3.cell? ⟨T0 + 1 + 1 + 1 + 1, 0, none⟩ = some (.map (some (T0 + 1 + 1 + 1))) := by rw [cell_of_row _ _ _ _ _ _ r3]; rfl
                  obtain ⟨w2, hrun2, hm2, hg2⟩ := r4.set o.s hsz (by unfold maxLen; omega) o.n
                  have hP2 : PT w stop T0 T v1 v2 ns (fun t => if t = o.s then some o.n else V t) vn (i + 1) w2 := HP1.out.putOld HIN.out ht3 hf3 hm2 hg2
                  have HP2 := Lib.hid hP2
                  have hrun2' : (Instr.mapUpdate 29 (.map (some (T0 + 1 + 1 + 1))) (.string o.s) (.int .i64 o.n)).run Tryd.prog w3 = .ok () w2 := hrun2
                  have cnb2 := HP2.out.cells.1
                  rw [HVN.out] at cnb2
                  have tl : ((ns.length : Int) != (ns.length : Int)) = false := by simp
                  have HT2 := Lib.hid (fun k => HP2.out.tab.below (W' := w2.drewN k) (below_drewN (Below.refl _ w2) k))
                  have HB2 := Lib.hid (fun k => HP2.out.below (W' := w2.drewN k) (below_drewN (Below.refl _ w2) k))
                  clear cnb cmb crs cst p0 p1 p2 hP2 hm2 hg2 r1 r2 r3 r4 r5 r6 r7 hO3 ht3 hf3 hrun2
                  go_wp2_with fail
                  go_quiet ((go_at_call 13; refine Calls.quiet_of_same (len_any _ (HT2.out _))))
                  go_wp2
                  go_roundw
                  case rel => exact ⟨i + 1, T, v1, v2, vn, ns, _, by omega, by omega, by go_num, rfl, Lib.hid (HB2.out _), Lib.hid ⟨by have := HL.out.1; omega, HL.out.2⟩⟩
                  case measure => simp [intOf]; omega
                · have ht : (V o.s).isSome = false := by
                    cases hh : (V o.s).isSome with
                    | false => rfl
                    | true => exact absurd ((HP1.out.mem o.s).1 hh) hin
                  rw [ht] at lk
                  obtain ⟨z, hz⟩ : ∃ z, (V o.s).getD 0 = z := ⟨_, rfl⟩
                  rw [hz] at lk
                  have HKP := Lib.hid (putSI_new o.s o.n W1 HP1.out.tab (fun y hy => by rw [List.mem_map] at hy; obtain ⟨z, _, rfl⟩ := hy; rfl) HP1.out.srt hin hln)
                  have HIN := Lib.hid hin
                  have hOl := World.block_lt_of_cell? _ ⟨O, 1, none⟩ p1
                  simp only at hOl
                  have hO0 : W1.heap[O]? = some (.cells #[.int .i64 o.k, .string o.s, .int .i64 o.n] 31 (0, 0)) := by rw [← hOz]; exact HO.out
                  have HOT := Lib.hid (HP1.out.tab.notTy hO0 (by decide) (by decide) (by decide))
                  have HO0 := Lib.hid hO0
                  clear hz ht hin hO0
                  go_wp2_with fail
                  refine HKP.out.mono ?_
                  rintro e w3 ⟨rfl, v1', v2', ht3, hf3, hn3⟩
                  obtain ⟨r1, r2, r3, r4, r5, r6, r7⟩ := HP1.out.far hf3
                  have hO3 : w3.heap[O]? = some (.cells #[.int .i64 o.k, .string o.s, .int .i64 o.n] 31 (0, 0)) := (hf3.block O hOl HOT.out).trans HO0.out
                  have s1 : w3.cell? ⟨O, 1, none⟩ = some (.string o.s) := by rw [cell_of_row _ _ _ _ _ _ hO3]; rfl
                  have s2 : w3.cell? ⟨O, 2, none⟩ = some (.int .i64 o.n) := by rw [cell_of_row _ _ _ _ _ _ hO3]; rfl
                  have cm3 : w3.cell? ⟨T0 + 1 + 1 + 1 + 1, 0, none⟩ = some (.map (some (T0 + 1 + 1 + 1))) := by rw [cell_of_row _ _ _ _ _ _ r3]; rfl
                  obtain ⟨w2, hrun2, hm2, hg2⟩ := r4.set o.s hsz (by unfold maxLen; omega) o.n
                  have hrun2' : (Instr.mapUpdate 29 (.map (some (T0 + 1 + 1 + 1))) (.string o.s) (.int .i64 o.n)).run Tryd.prog w3 = .ok () w2 := hrun2
                  have hf5 : Frm (fun k => TS T v1 v2 k ∨ k = T0 + 3) W1 w2 := (hf3.mono (fun k h => .inl h)).trans (Frm.grown hg2 (fun k e => by cases e; exact .inr rfl))
                  have ht5 : TSI T0 T v1' v2' (insAt ns (plc ltS ns o.s) o.s) (thg (insAt ns (plc ltS ns o.s) o.s) (fun t => if t = o.s then some o.n else V t)) w2 := by
                    have h4 := ht3
                    rw [thg_ins _ HIN.out] at h4
                    exact tab_mapped h4 r4 hg2
                  have hnm5 : w2.cell? ⟨O, 1, none⟩ = some (.string o.s) := (World.cell?_of_block (a := ⟨O, 1, none⟩) (hg2.block O (by have := (Array.getElem?_eq_some_iff.1 hO3).1; exact this) (fun e => by
                    cases e
                    obtain ⟨ob, hob, hc⟩ := r4.blk
                    rw [hO3] at hob
                    cases hob
                    cases hc))).trans s1
                  have hbx5 : w2.heap[T0 + 2]? = some (.cells #[vn] 25 (0, 0)) := (hg2.block _ (by have := (Array.getElem?_eq_some_iff.1 r2).1; exact this) (by simp)).trans r2
                  have hvn5 : w2.ownsRow T0 9 1 vn ns.length (ns.map Value.string) := HP1.out.row |> fun hrow => hf5.own hrow (fun g e1 e2 => by
                    rcases e2 with e2 | e2
                    · exact HP1.out.rne g e1 e2
                    · obtain ⟨ob, hob, hc⟩ := HP1.out.mp.blk
                      obtain ⟨cur, hcur⟩ := own_type HP1.out.row e1
                      rw [e2, hob] at hcur
                      cases hcur
                      cases hc)
                  have hmem5 : ∀ s, ((fun t => if t = o.s then some o.n else V t) s).isSome = true ↔ s ∈ insAt ns (plc ltS ns o.s) o.s := fun s => by
                    rw [mem_insAt]
                    by_cases e : s = o.s
                    · simp [e]
                    · simp only [if_neg e]
                      rw [HP1.out.mem s]
                      simp [e]
                  have HF5 := Lib.hid hf5
                  have HT5 := Lib.hid ht5
                  have HM5 := Lib.hid hm2
                  have HMEM := Lib.hid hmem5
                  have HNM5 := Lib.hid hnm5
                  have HBX5 := Lib.hid hbx5
                  have HVN5 := Lib.hid hvn5
                  have hsz5 := HP1.out.sz
                  have HSZ5 := Lib.hid (show W1.heap.size ≤ w2.heap.size from hf5.size)
                  clear hf5 ht5 hm2 hmem5 hnm5 hvn5 hbx5 hg2 r1 r2 r3 r4 r5 r6 r7 hO3 ht3 hf3 hn3 hrun2 cnb cmb crs cst p0 p1 p2 HO0 HOT
                  go_wp2
                  go_loopw [12] (fun kv wx => ∃ (k q : Nat), k ≤ ns.length ∧ kv = .int .i64 k ∧ wx = w2.drewN q ∧ Hid (∀ (j : Nat) (y : ByteArray), j < k → ns[j]? = some y → ltS y o.s = true)) (fun kv _ => ns.length - (intOf kv).toNat)
                  case atStart => exact ⟨0, 0, Nat.zero_le _, rfl, rfl, Lib.hid (fun j y hj => absurd hj (Nat.not_lt_zero _))⟩
                  case round =>
                    obtain ⟨k, q, hk, rfl, rfl, HK⟩ := hrel
                    obtain ⟨wz, hwz⟩ : ∃ wz, w2.drewN q = wz := ⟨_, rfl⟩
                    rw [hwz]
                    obtain ⟨bq, rfl, hle⟩ : ∃ bq, An = some ⟨bq, 0, none⟩ ∧ ns.length ≤ cn := by
                      have h3 := HL.out.2.2
                      rcases HP1.out.row.2 with ⟨h1, _⟩ | ⟨g, cap, cur, h1, _, _, h2, _⟩
                      · rw [h1] at h3; exact absurd rfl h3
                      · rw [h1] at HVN
                        have := HVN.out
                        injection this with e1 e2 e3
                        exact ⟨g, e1.symm, by omega⟩
                    have nmz : wz.cell? ⟨O, 1, none⟩ = some (.string o.s) := by rw [← hwz]; exact HNM5.out
                    have bxz : wz.cell? ⟨T0 + 1 + 1, 0, none⟩ = some (.slice (some ⟨bq, 0, none⟩) ns.length cn) := by
                      have h1 : wz.heap[T0 + 1 + 1]? = some (.cells #[vn] 25 (0, 0)) := by rw [← hwz]; exact HBX5.out
                      rw [cell_of_row _ _ _ _ _ _ h1, HVN.out]; rfl
                    by_cases hkl : k < ns.length
                    · obtain ⟨y, hy⟩ : ∃ y, ns[k]? = some y := ⟨_, List.getElem?_eq_getElem hkl⟩
                      have cy : wz.cell? ⟨bq, k, none⟩ = some (.string y) := by
                        have h0 := HVN5.out
                        rw [HVN.out] at h0
                        have h1 := h0.cells (g := bq) rfl k (.string y) (by rw [List.getElem?_map, hy]; rfl)
                        rw [Addr.add_lit, Nat.zero_add] at h1
                        rw [← hwz]
                        exact h1
                      have dk : decide ((k : Int) < (ns.length : Int)) = true := decide_eq_true (by omega)
                      have HY := Lib.hid hy
                      cases hly : ltS y o.s with
                      | true =>
                        have HLY := Lib.hid hly
                        unfold ltS at hly
                        clear hy
                        go_wp2_with fail
                        go_quiet (fail)
                        go_wp2
                        go_roundw
                        case rel =>
                          refine ⟨k + 1, q + nq, by omega, by go_num, by rw [← hwz]; simp [World.drewN, Nat.add_assoc], Lib.hid (fun j y' hj hy' => ?_)⟩
                          by_cases e : j = k
                          · subst e
                            rw [HY.out] at hy'
                            cases hy'
                            exact HLY.out
                          · exact HK.out j y' (by omega) hy'
                        case measure => simp [intOf]; omega
                      | false =>
                        have HLY := Lib.hid hly
                        unfold ltS at hly
                        clear hy
                        go_wp2_with fail
                        go_quiet (fail)
                        obtain ⟨wy, hwy⟩ : ∃ wy, wz.drewN nq = wy := ⟨_, rfl⟩
                        have hwq : w2.drewN (q + nq) = wy := by rw [← hwy, ← hwz]; simp [World.drewN, Nat.add_assoc]
                        have nmy : wy.cell? ⟨O, 1, none⟩ = some (.string o.s) := by rw [← hwy]; exact nmz
                        rw [hwy]
                        have hplc := plc_of ordS ns o.s k HP1.out.srt hk HK.out (fun y' h => by rw [HY.out] at h; cases h; exact HLY.out)
                        obtain ⟨ns', hns'⟩ : ∃ ns', insAt ns (plc ltS ns o.s) o.s = ns' := ⟨_, rfl⟩
                        have hns2 : ns.take k ++ o.s :: ns.drop k = ns' := by rw [← hns', hplc]; rfl
                        have hln' : ns'.length = ns.length + 1 := by rw [← hns', len_insAt _ _ _ (plc_le ns o.s)]
                        have hsr' : Srt ltS ns' := by rw [← hns']; exact srt_ins ordS ns o.s HP1.out.srt HIN.out
                        have hms' : ∀ s ∈ ns', s.size ≤ 100 := by
                          intro s hs
                          rw [← hns', mem_insAt] at hs
                          rcases hs with rfl | hs
                          · exact hs100
                          · exact HL.out.2.1 s hs
                        have HNS := Lib.hid hns'
                        have HNS2 := Lib.hid hns2
                        have HLN := Lib.hid hln'
                        have HSR := Lib.hid hsr'
                        have HMS := Lib.hid hms'
                        have HTZ : Hid (TSI T0 T v1' v2' ns' (thg ns' (fun t => if t = o.s then some o.n else V t)) wy) := Lib.hid (by rw [← hwq]; have := HT5.out.below (below_drewN (Below.refl _ w2) (q + nq)); rw [hns'] at this; exact this)
                        have HMZ : Hid (MapN wy (T0 + 3) (i + 1) (fun t => if t = o.s then some o.n else V t)) := Lib.hid (by rw [← hwq]; exact HM5.out.ofBlock rfl)
                        have HME : Hid (∀ s, ((fun t => if t = o.s then some o.n else V t) s).isSome = true ↔ s ∈ ns') := Lib.hid (by have := HMEM.out; rw [hns'] at this; exact this)
                        have HFZ : Hid (Frm (fun k => TS T v1 v2 k ∨ k = T0 + 3) W1 wy) := Lib.hid (by rw [← hwq]; exact HF5.out.trans (Frm.drewN _ w2 (q + nq)))
                        have HZ5 : Hid (W1.heap.size ≤ wy.heap.size) := HFZ.out.size |> Lib.hid
                        clear hplc hns' hns2 hln' hsr' hms'
                        go_upto_region 21 with fail
                        refine r21_go _ _ _ ns bq (T0 + 1 + 1) O ns.length cn k o.s _ _ _ _ _ _ _ _ _ _ _ _ _ _ _ _ _ _ _ _ _ _ _ _ _ _ _ _ _ _ _ _ _ _ _ _ _ _ _ _ _ _ _ _ _ _ _ _ _ _ _ _ _ _ _ _ _ _ _ _ _ _ _ _ _ _ _ _ _ _ _ _ _ _ _ _ _ _ _ _ _ _ _ _ _ _ _ _ _ _ _ _ _ _ _ _ _ _ _ _ _ _ _ _ _ _ _ _ _ _ _ _ _ _ _ _ _ _ _ _ _ _ _ _ _ _ _ _ _ _ _ _ _ _ _ _ _ _ _ _ _ _ _ _ _ _ _ _ _ _ _ _ _ _ _ _ _ _ _ _ _ _ _ _ _ _ _ _ _ _ _ _ _ _ _ _ _ _ _ _ _ _ _ _ _ _ _ _ _ _ _ _ _ _ _ _ _ _ _ _ _ _ _ _ _ _ _ _ _ _ _ _ _ _ _ _ _ _ _ _ _ _ _ _ _ _ _ _ _ _ _ _ _ _ _ _ _ _ _ _ _ rfl hl60 hk hle (by rw [← hwq]; exact RdX.below (rdx_own (by have := HVN5.out; rw [HVN.out] at this; exact this)) (below_drewN (Below.refl _ w2) _)) (by rw [← hwq]; have := HBX5.out; rw [HVN.out] at this; exact this) nmy ?_
                        rintro v7 w7 y90 y91 y92 y93 y94 y95 y96 y97 y98 y99 y100 y101 y102 hown7 hb7
                        rw [HNS2.out] at hown7
                        have hob7 : v7.ownBlock ≠ none := by
                          rcases hown7.2 with ⟨_, h0⟩ | ⟨g, _, _, h1, _⟩
                          · have := HLN.out; omega
                          · rw [h1]; simp [Value.ownBlock]
                        have hP2 : PT w stop T0 T v1' v2' ns' (fun t => if t = o.s then some o.n else V t) v7 (i + 1) (w7.setCell ⟨T0 + 2, 0, none⟩ v7) := by
                          have hz := hb7.size
                          refine HP1.out.redo (HFZ.out.trans (Frm.below hb7)) (HTZ.out.below hb7) (HMZ.out.ofBlock (hb7.block _ ?_)) hown7 HZ5.out (fun k hk => (HTZ.out.in_ k hk).2) HSR.out HME.out
                          have := HP1.out.sz
                          have := HZ5.out
                          omega
                        have HP2 := Lib.hid hP2
                        obtain ⟨A7, c7, hv7⟩ := own_slX hown7
                        have HV7 := Lib.hid hv7
                        have HO7 := Lib.hid hob7
                        subst hv7
                        obtain ⟨w8, hw8⟩ : ∃ w8, w7.setCell ⟨T0 + 2, 0, none⟩ (.slice A7 ns'.length c7) = w8 := ⟨_, rfl⟩
                        have hw8' : w7.setCell ⟨T0 + 1 + 1, 0, none⟩ (.slice A7 ns'.length c7) = w8 := hw8
                        rw [hw8] at HP2
                        clear hown7 hb7 hob7 hP2 hw8
                        rw [hw8']
                        clear hw8'
                        have cnb2 := HP2.out.cells.1
                        have tl : ((ns'.length : Int) != (ns'.length : Int)) = false := by simp
                        have HT2 := Lib.hid (fun k => HP2.out.tab.below (W' := w8.drewN k) (below_drewN (Below.refl _ w8) k))
                        have HB2 := Lib.hid (fun k => HP2.out.below (W' := w8.drewN k) (below_drewN (Below.refl _ w8) k))
                        go_wp2_with fail
                        go_quiet ((go_at_call 13; refine Calls.quiet_of_same (len_any _ (HT2.out _))))
                        go_wp2
                        go_roundw
                        case rel => exact ⟨i + 1, T, v1', v2', _, ns', _, by omega, by omega, by go_num, rfl, Lib.hid (HB2.out _), Lib.hid ⟨by have := HL.out.1; have := HLN.out; omega, HMS.out, HO7.out⟩⟩
                        case measure => simp [intOf]; omega
                    · obtain rfl : k = ns.length := by omega
                      have dk : decide ((ns.length : Int) < (ns.length : Int)) = false := decide_eq_false (by omega)
                      go_wp2_with fail
                      go_quiet (fail)
                      obtain ⟨wy, hwy⟩ : ∃ wy, wz.drewN nq = wy := ⟨_, rfl⟩
                      have hwq : w2.drewN (q + nq) = wy := by rw [← hwy, ← hwz]; simp [World.drewN, Nat.add_assoc]
                      have nmy : wy.cell? ⟨O, 1, none⟩ = some (.string o.s) := by rw [← hwy]; exact nmz
                      rw [hwy]
                      have hplc := plc_of ordS ns o.s ns.length HP1.out.srt hk HK.out (fun y' h => absurd (List.getElem?_eq_some_iff.1 h).1 (by omega))
                      obtain ⟨ns', hns'⟩ : ∃ ns', insAt ns (plc ltS ns o.s) o.s = ns' := ⟨_, rfl⟩
                      have hns2 : ns.take ns.length ++ o.s :: ns.drop ns.length = ns' := by rw [← hns', hplc]; rfl
                      have hln' : ns'.length = ns.length + 1 := by rw [← hns', len_insAt _ _ _ (plc_le ns o.s)]
                      have hsr' : Srt ltS ns' := by rw [← hns']; exact srt_ins ordS ns o.s HP1.out.srt HIN.out
                      have hms' : ∀ s ∈ ns', s.size ≤ 100 := by
                        intro s hs
                        rw [← hns', mem_insAt] at hs
                        rcases hs with rfl | hs
                        · exact hs100
                        · exact HL.out.2.1 s hs
                      have HNS := Lib.hid hns'
                      have HNS2 := Lib.hid hns2
                      have HLN := Lib.hid hln'
                      have HSR := Lib.hid hsr'
                      have HMS := Lib.hid hms'
                      have HTZ : Hid (TSI T0 T v1' v2' ns' (thg ns' (fun t => if t = o.s then some o.n else V t)) wy) := Lib.hid (by rw [← hwq]; have := HT5.out.below (below_drewN (Below.refl _ w2) (q + nq)); rw [hns'] at this; exact this)
                      have HMZ : Hid (MapN wy (T0 + 3) (i + 1) (fun t => if t = o.s then some o.n else V t)) := Lib.hid (by rw [← hwq]; exact HM5.out.ofBlock rfl)
                      have HME : Hid (∀ s, ((fun t => if t = o.s then some o.n else V t) s).isSome = true ↔ s ∈ ns') := Lib.hid (by have := HMEM.out; rw [hns'] at this; exact this)
                      have HFZ : Hid (Frm (fun k => TS T v1 v2 k ∨ k = T0 + 3) W1 wy) := Lib.hid (by rw [← hwq]; exact HF5.out.trans (Frm.drewN _ w2 (q + nq)))
                      have HZ5 : Hid (W1.heap.size ≤ wy.heap.size) := HFZ.out.size |> Lib.hid
                      clear hplc hns' hns2 hln' hsr' hms'
                      go_upto_region 21 with fail
                      refine r21_go _ _ _ ns bq (T0 + 1 + 1) O ns.length cn ns.length o.s _ _ _ _ _ _ _ _ _ _ _ _ _ _ _ _ _ _ _ _ _ _ _ _ _ _ _ _ _ _ _ _ _ _ _ _ _ _ _ _ _ _ _ _ _ _ _ _ _ _ _ _ _ _ _ _ _ _ _ _ _ _ _ _ _ _ _ _ _ _ _ _ _ _ _ _ _ _ _ _ _ _ _ _ _ _ _ _ _ _ _ _ _ _ _ _ _ _ _ _ _ _ _ _ _ _ _ _ _ _ _ _ _ _ _ _ _ _ _ _ _ _ _ _ _ _ _ _ _ _ _ _ _ _ _ _ _ _ _ _ _ _ _ _ _ _ _ _ _ _ _ _ _ _ _ _ _ _ _ _ _ _ _ _ _ _ _ _ _ _ _ _ _ _ _ _ _ _ _ _ _ _ _ _ _ _ _ _ _ _ _ _ _ _ _ _ _ _ _ _ _ _ _ _ _ _ _ _ _ _ _ _ _ _ _ _ _ _ _ _ _ _ _ _ _ _ _ _ _ _ _ _ _ _ _ _ _ _ _ _ _ rfl hl60 hk hle (by rw [← hwq]; exact RdX.below (rdx_own (by have := HVN5.out; rw [HVN.out] at this; exact this)) (below_drewN (Below.refl _ w2) _)) (by rw [← hwq]; have := HBX5.out; rw [HVN.out] at this; exact this) nmy ?_
                      rintro v7 w7 y90 y91 y92 y93 y94 y95 y96 y97 y98 y99 y100 y101 y102 hown7 hb7
                      rw [HNS2.out] at hown7
                      have hob7 : v7.ownBlock ≠ none := by
                        rcases hown7.2 with ⟨_, h0⟩ | ⟨g, _, _, h1, _⟩
                        · have := HLN.out; omega
                        · rw [h1]; simp [Value.ownBlock]
                      have hP2 : PT w stop T0 T v1' v2' ns' (fun t => if t = o.s then some o.n else V t) v7 (i + 1) (w7.setCell ⟨T0 + 2, 0, none⟩ v7) := by
                        have hz := hb7.size
                        refine HP1.out.redo (HFZ.out.trans (Frm.below hb7)) (HTZ.out.below hb7) (HMZ.out.ofBlock (hb7.block _ ?_)) hown7 HZ5.out (fun k hk => (HTZ.out.in_ k hk).2) HSR.out HME.out
                        have := HP1.out.sz
                        have := HZ5.out
                        omega
                      have HP2 := Lib.hid hP2
                      obtain ⟨A7, c7, hv7⟩ := own_slX hown7
                      have HV7 := Lib.hid hv7
                      have HO7 := Lib.hid hob7
                      subst hv7
                      obtain ⟨w8, hw8⟩ : ∃ w8, w7.setCell ⟨T0 + 2, 0, none⟩ (.slice A7 ns'.length c7) = w8 := ⟨_, rfl⟩
                      have hw8' : w7.setCell ⟨T0 + 1 + 1, 0, none⟩ (.slice A7 ns'.length c7) = w8 := hw8
                      rw [hw8] at HP2
                      clear hown7 hb7 hob7 hP2 hw8
                      rw [hw8']
                      clear hw8'
                      have cnb2 := HP2.out.cells.1
                      have tl : ((ns'.length : Int) != (ns'.length : Int)) = false := by simp
                      have HT2 := Lib.hid (fun k => HP2.out.tab.below (W' := w8.drewN k) (below_drewN (Below.refl _ w8) k))
                      have HB2 := Lib.hid (fun k => HP2.out.below (W' := w8.drewN k) (below_drewN (Below.refl _ w8) k))
                      go_wp2_with fail
                      go_quiet ((go_at_call 13; refine Calls.quiet_of_same (len_any _ (HT2.out _))))
                      go_wp2
                      go_roundw
                      case rel => exact ⟨i + 1, T, v1', v2', _, ns', _, by omega, by omega, by go_num, rfl, Lib.hid (HB2.out _), Lib.hid ⟨by have := HL.out.1; have := HLN.out; omega, HMS.out, HO7.out⟩⟩
                      case measure => simp [intOf]; omega
              · by_cases h2 : o.k = 2
                · have e0 : (o.k == 0) = false := by rw [beq_eq_false_iff_ne]; omega
                  have e1 : (o.k == 1) = false := by rw [beq_eq_false_iff_ne]; omega
                  have e2 : (o.k == 2) = true := by rw [beq_iff_eq]; exact h2
                  clear h0 h1 h2 h3 h4
                  have hOl := World.block_lt_of_cell? _ ⟨O, 1, none⟩ p1
                  simp only at hOl
                  have hO0 : W1.heap[O]? = some (.cells #[.int .i64 o.k, .string o.s, .int .i64 o.n] 31 (0, 0)) := by rw [← hOz]; exact HO.out
                  have HOT := Lib.hid (HP1.out.tab.notTy hO0 (by decide) (by decide) (by decide))
                  have HO0 := Lib.hid hO0
                  obtain ⟨bq, rfl, hle⟩ : ∃ bq, An = some ⟨bq, 0, none⟩ ∧ ns.length ≤ cn := by
                    have h3 := HL.out.2.2
                    rcases HP1.out.row.2 with ⟨h1, _⟩ | ⟨g, cap, cur, h1, _, _, h2, _⟩
                    · rw [h1] at h3; exact absurd rfl h3
                    · rw [h1] at HVN
                      have := HVN.out
                      injection this with e1 e2 e3
                      exact ⟨g, e1.symm, by omega⟩
                  obtain ⟨ns', hns'⟩ : ∃ ns', ns.filter (fun y => !decide (y = o.s)) = ns' := ⟨_, rfl⟩
                  have KD : Calls Tryd.prog 11 #[.pointer (some ⟨T, 0, none⟩), .string o.s] W1 fun e W' => e = .returned (.bool (V o.s).isSome) ∧ ∃ v1' v2', TSI T0 T v1' v2' ns' (thg ns' (fun t => if t = o.s then none else V t)) W' ∧ Frm (TS T v1 v2) W1 W' ∧ ∀ k, TS T v1' v2' k → TS T v1 v2 k := by
                    by_cases hin : o.s ∈ ns
                    · rw [(HP1.out.mem o.s).2 hin]
                      refine (drop_some o.s W1 HP1.out.tab HP1.out.srt hin hln).mono ?_
                      rintro e W' ⟨rfl, v1', v2', ht, hf, hk⟩
                      refine ⟨rfl, v1', v2', ?_, hf, hk⟩
                      have e1 : (thg ns V).eraseIdx (plc ltS ns o.s) = thg (ns.eraseIdx (plc ltS ns o.s)) V := by
                        unfold thg
                        simp [List.eraseIdx_eq_take_drop_succ, List.map_take, List.map_drop]
                      rw [e1, erase_filter HP1.out.srt hin, thg_filter, hns'] at ht
                      exact ht
                    · have hnone : (V o.s).isSome = false := by
                        cases hh : (V o.s).isSome with
                        | false => rfl
                        | true => exact absurd ((HP1.out.mem o.s).1 hh) hin
                      rw [hnone]
                      refine (drop_none o.s W1 HP1.out.tab HP1.out.srt hin hln).mono ?_
                      rintro e W' ⟨rfl, q, rfl⟩
                      refine ⟨rfl, v1, v2, ?_, Frm.drewN _ W1 q, fun k h => h⟩
                      have ht := HP1.out.tab.below (below_drewN (Below.refl _ W1) q)
                      have e1 := filter_self hin
                      rw [hns'] at e1
                      have e2 := @thg_filter ns o.s V
                      rw [hns', e1] at e2
                      rw [e1]
                      rw [e2] at ht
                      exact ht
                  have HKD := Lib.hid KD
                  have HNS := Lib.hid hns'
                  obtain ⟨bt, hbt⟩ : ∃ bt, (V o.s).isSome = bt := ⟨_, rfl⟩
                  rw [hbt] at lk HKD
                  obtain ⟨z, hz⟩ : ∃ z, (V o.s).getD 0 = z := ⟨_, rfl⟩
                  rw [hz] at lk
                  have tb : (bt != bt) = false := by simp
                  clear hbt hz KD hns' hO0
                  go_wp2_with fail
                  refine HKD.out.mono ?_
                  rintro e w3 ⟨rfl, v1', v2', ht3, hf3, hk3⟩
                  obtain ⟨r1, r2, r3, r4, r5, r6, r7⟩ := HP1.out.far hf3
                  have hO3 : w3.heap[O]? = some (.cells #[.int .i64 o.k, .string o.s, .int .i64 o.n] 31 (0, 0)) := (hf3.block O hOl HOT.out).trans HO0.out
                  have s1 : w3.cell? ⟨O, 1, none⟩ = some (.string o.s) := by rw [cell_of_row _ _ _ _ _ _ hO3]; rfl
                  have cm3 : w3.cell? ⟨T0 + 1 + 1 + 1 + 1, 0, none⟩ = some (.map (some (T0 + 1 + 1 + 1))) := by rw [cell_of_row _ _ _ _ _ _ r3]; rfl
                  obtain ⟨w2, hrun2, hm2, hg2⟩ := r4.del o.s hsz 0
                  have hrun2' : (Builtin.delete_ #[29, 9] 0 #[.map (some (T0 + 1 + 1 + 1)), .string o.s]).run Tryd.prog w3 = .ok (.tuple #[]) w2 := hrun2
                  have hf5 : Frm (fun k => TS T v1 v2 k ∨ k = T0 + 3) W1 w2 := (hf3.mono (fun k h => .inl h)).trans (Frm.grown hg2 (fun k e => by cases e; exact .inr rfl))
                  have ht5 : TSI T0 T v1' v2' ns' (thg ns' (fun t => if t = o.s then none else V t)) w2 := tab_mapped ht3 r4 hg2
                  have hnm5 : w2.cell? ⟨O, 1, none⟩ = some (.string o.s) := (World.cell?_of_block (a := ⟨O, 1, none⟩) (hg2.block O (by have := (Array.getElem?_eq_some_iff.1 hO3).1; exact this) (fun e => by
                    cases e
                    obtain ⟨ob, hob, hc⟩ := r4.blk
                    rw [hO3] at hob
                    cases hob
                    cases hc))).trans s1
                  have hbx5 : w2.heap[T0 + 2]? = some (.cells #[vn] 25 (0, 0)) := (hg2.block _ (by have := (Array.getElem?_eq_some_iff.1 r2).1; exact this) (by simp)).trans r2
                  have hvn5 : w2.ownsRow T0 9 1 vn ns.length (ns.map Value.string) := HP1.out.row |> fun hrow => hf5.own hrow (fun g e1 e2 => by
                    rcases e2 with e2 | e2
                    · exact HP1.out.rne g e1 e2
                    · obtain ⟨ob, hob, hc⟩ := HP1.out.mp.blk
                      obtain ⟨cur, hcur⟩ := own_type HP1.out.row e1
                      rw [e2, hob] at hcur
                      cases hcur
                      cases hc)
                  have hmem5 : ∀ s, ((fun t => if t = o.s then none else V t) s).isSome = true ↔ s ∈ ns' := fun s => by
                    rw [← HNS.out, List.mem_filter]
                    by_cases e : s = o.s
                    · simp [e]
                    · simp only [if_neg e]
                      rw [HP1.out.mem s]
                      simp [e]
                  have HF5 := Lib.hid hf5
                  have HT5 := Lib.hid ht5
                  have HM5 := Lib.hid hm2
                  have HMEM := Lib.hid hmem5
                  have HNM5 := Lib.hid hnm5
                  have HBX5 := Lib.hid hbx5
                  have HVN5 := Lib.hid hvn5
                  have HSZ5 := Lib.hid (show W1.heap.size ≤ w2.heap.size from hf5.size)
                  obtain ⟨C, hC⟩ : ∃ C, w2.heap.size = C := ⟨_, rfl⟩
                  have HOW0 := Lib.hid (World.ownsRow_lit (base := C) (e := 9) (size := 1) w2 #[] 0 (by omega) (by decide) rfl)
                  have HB0 : Hid (Below C w2 (w2.alloc (.cells #[] 9))) := Lib.hid (by rw [← hC]; exact (Below.refl _ _).alloc (Nat.le_refl _) _)
                  have fcs : ∀ W, Below C w2 W → W.cell? ⟨O, 1, none⟩ = some (.string o.s) ∧ W.heap[T0 + 1 + 1]? = some (.cells #[vn] 25 (0, 0)) ∧ W.cell? ⟨T0 + 1 + 1, 0, none⟩ = some (.slice (some ⟨bq, 0, none⟩) ns.length cn) ∧ W.frozen? ⟨T0 + 1 + 1, 0, none⟩ = false ∧ ∀ (k : Nat) (y : ByteArray), ns[k]? = some y → W.cell? ⟨bq, k, none⟩ = some (.string y) := by
                    intro W hb
                    rw [← hC] at hb
                    have h1 : W.heap[T0 + 1 + 1]? = some (.cells #[vn] 25 (0, 0)) := (hb.block _ (Array.getElem?_eq_some_iff.1 HBX5.out).1).trans HBX5.out
                    refine ⟨(hb.cell (p := ⟨O, 1, none⟩) (World.block_lt_of_cell? _ ⟨O, 1, none⟩ HNM5.out)).trans HNM5.out, h1, by rw [cell_of_row _ _ _ _ _ _ h1, HVN.out]; rfl, by simp [World.frozen?, h1], fun k y hy => ?_⟩
                    have h0 := own_keepT HVN5.out hb
                    rw [HVN.out] at h0
                    have h1 := h0.cells (g := bq) rfl k (.string y) (by rw [List.getElem?_map, hy]; rfl)
                    rwa [Addr.add_lit, Nat.zero_add] at h1
                  have FCS := Lib.hid fcs
                  have HCC := Lib.hid hC
                  clear hf5 ht5 hm2 hmem5 hnm5 hvn5 hbx5 hg2 r1 r2 r3 r4 r5 r6 r7 hO3 ht3 hf3 hk3 hrun2 cnb cmb crs cst p0 p1 p2 HO0 HOT fcs
                  obtain ⟨-, -, u0, -, -⟩ := FCS.out w2 (Below.refl _ _)
                  obtain ⟨-, -, ua, -, -⟩ := FCS.out _ HB0.out
                  clear hC
                  go_wp2
                  rw [HCC.out]
                  go_loopw [15, 134] (fun rv kv wx => ∃ k : Nat, k ≤ ns.length ∧ kv = .int .i64 k ∧ Hid (rv.ownBlock ≠ none) ∧ Hid (wx.ownsRow C 9 1 rv ((ns.take k).filter (fun y => !decide (y = o.s))).length (((ns.take k).filter (fun y => !decide (y = o.s))).map Value.string)) ∧ Hid (Below C w2 wx)) (fun _ kv _ => ns.length - (intOf kv).toNat)
                  case atStart =>
                    refine ⟨0, Nat.zero_le _, rfl, Lib.hid (by simp [Value.ownBlock]), Lib.hid ?_, HB0⟩
                    have := HOW0.out
                    rw [HCC.out] at this
                    exact this
                  case round =>
                    obtain ⟨k, hk, rfl, HNN, HOW, HB⟩ := hrel
                    obtain ⟨f0, fh, f1, f2, f3⟩ := FCS.out wr HB.out
                    have F3 := Lib.hid f3
                    clear f3
                    by_cases hkl : k < ns.length
                    · obtain ⟨y, hy⟩ : ∃ y, ns[k]? = some y := ⟨_, List.getElem?_eq_getElem hkl⟩
                      have cy := F3.out k y hy
                      have htk : ns.take (k + 1) = ns.take k ++ [y] := by rw [List.take_add_one, hy]; rfl
                      have HTK := Lib.hid htk
                      clear htk fh hy
                      by_cases hye : y = o.s
                      · have hq : (y.toList != o.s.toList) = false := by rw [hye]; simp
                        have hq2 : (y.toList == o.s.toList) = true := by rw [hye]; simp
                        have HYE := Lib.hid hye
                        clear hye
                        go_wp2
                        go_roundw
                        case rel =>
                          refine ⟨k + 1, by omega, by go_num, HNN, Lib.hid ?_, HB⟩
                          rw [HTK.out, List.filter_append, HYE.out]
                          simpa using HOW.out
                        case measure => simp [intOf]; omega
                      · have hq : (y.toList != o.s.toList) = true := by
                          rw [bne_iff_ne]
                          intro e
                          rw [ByteArray.toList_eq, ByteArray.toList_eq] at e
                          exact hye (ByteArray.ext (Array.toList_inj.1 e))
                        have hq2 : (y.toList == o.s.toList) = false := by unfold bne at hq; simpa using hq
                        have hfl : (ns.take (k + 1)).filter (fun y => !decide (y = o.s)) = (ns.take k).filter (fun y => !decide (y = o.s)) ++ [y] := by
                          rw [HTK.out, List.filter_append]
                          simp [hye]
                        have HFL := Lib.hid hfl
                        obtain ⟨L, hL⟩ : ∃ L, (ns.take k).filter (fun y => !decide (y = o.s)) = L := ⟨_, rfl⟩
                        have hLl : L.length ≤ 60 := by
                          rw [← hL]
                          have := List.length_filter_le (fun y => !decide (y = o.s)) (ns.take k)
                          rw [List.length_take] at this
                          omega
                        rw [hL] at HOW HFL
                        obtain ⟨l, hl⟩ : ∃ l, L.length = l := ⟨_, rfl⟩
                        rw [hl] at HOW hLl
                        have HLL := Lib.hid hl
                        have hown := HOW.out
                        have hbs := HB.out.size
                        have hCw : C ≤ wr.heap.size := by rw [← HCC.out]; exact hbs
                        obtain ⟨i0, hi, hz0, hz1, hz2⟩ := info_parts infoStr
                        clear hfl hL hye hl
                        go_wp2_with (at_builtin; refine wpList_append_own _ rfl _ _ 25 rfl C 9 i0 (.string ⟨#[]⟩) 1 16 Tryd.underlying25 hi hz0 hz1 hz2 rfl (by decide) u15 l (L.map Value.string) rfl (hown.alloc _) ⟨wr.heap.size, 0, none⟩ 1 1 [.string y] rfl rfl (str_newX wr _ _) (by simp [Value.oneCell']) (by unfold maxLen; omega) (by omega) (by simp; omega) ?_; intro v5 w5 hown5 hg5 hn5; have hB5 : Below C wr w5 := ((Below.refl _ wr).alloc hCw (.cells #[.string y] 9)).grown hg5 (by simp; omega) (fun k e => (hown.lt k e).1); clear hg5 hn5)
                        go_roundw
                        case rel =>
                          refine ⟨k + 1, by omega, by go_num, Lib.hid ?_, Lib.hid ?_, Lib.hid (HB.out.trans hB5)⟩
                          · rcases hown5.2 with ⟨_, h0⟩ | ⟨g, _, _, h1, _⟩
                            · omega
                            · rw [h1]; simp [Value.ownBlock]
                          · rw [HFL.out, List.map_append, List.length_append, HLL.out]
                            exact hown5
                        case measure => simp [intOf]; omega
                    · obtain rfl : k = ns.length := by omega
                      have ho7 := HOW.out
                      rw [List.take_length, HNS.out] at ho7
                      obtain ⟨A7, c7, hv7⟩ := own_slX ho7
                      subst hv7
                      have hsub : ns'.length ≤ ns.length := by rw [← HNS.out]; exact List.length_filter_le _ _
                      have hms' : ∀ s ∈ ns', s.size ≤ 100 := fun s hs => by
                        rw [← HNS.out, List.mem_filter] at hs
                        exact HL.out.2.1 s hs.1
                      have hsr' : Srt ltS ns' := by rw [← HNS.out]; exact List.Pairwise.filter _ HP1.out.srt
                      have hP2 : PT w stop T0 T v1' v2' ns' (fun t => if t = o.s then none else V t) (.slice A7 ns'.length c7) (i + 1) (wr.setCell ⟨T0 + 2, 0, none⟩ (.slice A7 ns'.length c7)) := by
                        have hbb := HB.out
                        rw [← HCC.out] at hbb
                        refine HP1.out.redo (HF5.out.trans (Frm.below hbb)) (HT5.out.below hbb) ((HM5.out.mono (Nat.le_succ i)).ofBlock (hbb.block _ ?_)) ho7 (by rw [← HCC.out]; exact HSZ5.out) (fun k hk => by rw [← HCC.out]; exact (HT5.out.in_ k hk).2) hsr' HMEM.out
                        have := HP1.out.sz
                        have := HSZ5.out
                        omega
                      have HP2 := Lib.hid hP2
                      have HMS := Lib.hid hms'
                      have HSB := Lib.hid hsub
                      obtain ⟨w8, hw8⟩ : ∃ w8, wr.setCell ⟨T0 + 2, 0, none⟩ (.slice A7 ns'.length c7) = w8 := ⟨_, rfl⟩
                      have hw8' : wr.setCell ⟨T0 + 1 + 1, 0, none⟩ (.slice A7 ns'.length c7) = w8 := hw8
                      rw [hw8] at HP2
                      clear hP2 hw8 ho7 hms' hsr' hsub fh
                      have cnb2 := HP2.out.cells.1
                      have tl : ((ns'.length : Int) != (ns'.length : Int)) = false := by simp
                      have HT2 := Lib.hid (fun k => HP2.out.tab.below (W' := w8.drewN k) (below_drewN (Below.refl _ w8) k))
                      have HB2 := Lib.hid (fun k => HP2.out.below (W' := w8.drewN k) (below_drewN (Below.refl _ w8) k))
                      go_wp2_with fail
                      go_quiet ((go_at_call 13; refine Calls.quiet_of_same (len_any _ (HT2.out _))))
                      go_wp2
                      go_roundw
                      case rel => exact ⟨i + 1, T, v1', v2', _, ns', _, by omega, by omega, by go_num, rfl, Lib.hid (HB2.out _), Lib.hid ⟨by have := HL.out.1; have := HSB.out; omega, HMS.out, HNN.out⟩⟩
                      case measure => simp [intOf]; omega
                · have e0 : (o.k == 0) = false := by rw [beq_eq_false_iff_ne]; omega
                  have e1 : (o.k == 1) = false := by rw [beq_eq_false_iff_ne]; omega
                  have e2 : (o.k == 2) = false := by rw [beq_eq_false_iff_ne]; omega
                  have e3 : (o.k == 3) = false := by rw [beq_eq_false_iff_ne]; omega
                  have e4 : (o.k == 4) = false := by rw [beq_eq_false_iff_ne]; omega
                  have HP2 := Lib.hid (HP1.out.more (Nat.le_succ i))
                  clear h3 h1 h4 h0 h2
                  have cnb2 := HP2.out.cells.1
                  rw [HVN.out] at cnb2
                  have tl : ((ns.length : Int) != (ns.length : Int)) = false := by simp
                  have HT2 := Lib.hid (fun k => HP2.out.tab.below (W' := W1.drewN k) (below_drewN (Below.refl _ W1) k))
                  have HB2 := Lib.hid (fun k => HP2.out.below (W' := W1.drewN k) (below_drewN (Below.refl _ W1) k))
                  clear cst
                  go_wp2_with fail
                  go_quiet ((go_at_call 13; refine Calls.quiet_of_same (len_any _ (HT2.out _))))
                  go_wp2
                  go_roundw
                  case rel => exact ⟨i + 1, T, v1, v2, vn, ns, V, by omega, by omega, by go_num, rfl, Lib.hid (HB2.out _), Lib.hid ⟨by have := HL.out.1; omega, HL.out.2⟩⟩
                  case measure => simp [intOf]; omega
    · by_cases hlt : i < os.length
      · have h60 : ¬ i < 60 := fun h => hgo ⟨hlt, h⟩
        have g60 : decide ((i : Int) < 60) = false := decide_eq_false (by omega)
        clear hgo
        go_wp2
        go_meet
        exact ⟨_, _, _, _, _, _, _, hi60, rfl, HP, HL⟩
      · clear hgo
        go_wp2
        go_meet
        exact ⟨_, _, _, _, _, _, _, hi60, rfl, HP, HL⟩
end Go.Proofs.YtfkbjniodomdjaaDoor
