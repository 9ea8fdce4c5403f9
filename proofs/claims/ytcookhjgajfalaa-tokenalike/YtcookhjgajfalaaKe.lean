/- Alike. -/
import Derived.Test.YtcookhjgajfalaaKd
namespace Go.Proofs.Ytcookhjgajfalaa
open Go.RowKit Go.Lib

theorem alike_len {a b : List Atr} (h : a.length ≠ b.length) : alike a b = false := by
  unfold alike
  rw [Bool.and_eq_false_iff]
  left
  simpa using h
theorem alike_bad {a b : List Atr} {k : Nat} {x : Atr} (hx : a[k]? = some x) (h : alk b x = false) : alike a b = false := by
  unfold alike
  rw [Bool.and_eq_false_iff]
  right
  rw [List.all_eq_false]
  exact ⟨x, List.mem_of_getElem? hx, by rw [h]; simp⟩
theorem alike_all {a b : List Atr} (hl : a.length = b.length) (h : (a.take a.length).all (alk b) = true) : alike a b = true := by
  unfold alike
  rw [List.take_of_length_le (Nat.le_refl _)] at h
  rw [Bool.and_eq_true]
  exact ⟨by simpa using hl, h⟩
theorem all_snoc {a b : List Atr} {k : Nat} {x : Atr} (hx : a[k]? = some x) (h : (a.take k).all (alk b) = true) (h2 : alk b x = true) : (a.take (k + 1)).all (alk b) = true := by
  rw [take_snoc hx, List.all_append, h]
  simp [h2]

set_option maxHeartbeats 2000000 in
theorem alike_call (a b : List Atr) (A B : Option Addr) (c d : Nat) (w : World) (ha : RdA w A a) (hb : RdA w B b) (hl : a.length ≤ 1000000) (hl2 : b.length ≤ 1000000) (hz : Sz a) (hz2 : Sz b) :
    Calls Try.prog 21 #[.slice A a.length c, .slice B b.length d] w fun e w' => e = .returned (.bool (alike a b)) ∧ Below w.heap.size w w' := by
  by_cases hn : a.length = b.length
  · have HC := Lib.hid (places_any b B d w hb hl2 hz2)
    have H := Lib.hid ha
    have H2 := Lib.hid hb
    have HZ := Lib.hid hz
    have HN := Lib.hid hn
    have hn2 : ((a.length : Int) != (b.length : Int)) = false := by simp [hn]
    have hn3 : (a.length != b.length) = false := by simp [hn]
    clear ha hb hz hz2 hn
    go_enter Try.func21, Try.ntmps21
    go_wp2_with fail
    refine HC.out.mono ?_
    rintro e w1 ⟨g, rfl, hg, hm, hb1⟩
    have HM := Lib.hid hm
    have hgl := hm.lt
    clear hm HC hn2 hn3
    go_wp2
    go_loopw [19] (fun iv wr => ∃ k : Nat, k ≤ a.length ∧ iv = .int .i64 k ∧ Hid ((a.take k).all (alk b) = true) ∧ Below w1.heap.size w1 wr) (fun iv _ => a.length - (intOf iv).toNat)
    case atStart => exact ⟨0, Nat.zero_le _, rfl, Lib.hid (by simp), Below.refl _ _⟩
    case round =>
      obtain ⟨k, hk, rfl, HA, hbr⟩ := hrel
      by_cases hlt : k < a.length
      · obtain ⟨x, hx⟩ := get_lt hlt
        have HX := Lib.hid hx
        have hsz := HZ.out x (List.mem_of_getElem? hx)
        obtain ⟨ba, offa, rfl, hbl, c0, c1⟩ := ((H.out.below hb1).below hbr).at_ hx
        clear hx
        have hne : ¬ wr.heap.size = ba := by omega
        have hmm := (HM.out.below hbr hgl).ofBlock (w' := wr.alloc (.cells #[.string x.1, .string x.2] 39)) (Below.heap_alloc _ _ _ (by have := hbr.size; omega))
        have hlk := hmm.look x.1 hsz
        clear hmm hsz
        cases hf : b.find? (hs x.1) with
        | none =>
          have HB := Lib.hid (alike_bad (b := b) HX.out (by unfold alk; rw [hf]))
          have hp := (find_none hf).1
          have e1 : pV b b.length x.1 = none := by unfold pV; rw [if_neg hp]
          rw [e1] at hlk
          clear e1 hp hf
          go_wp2
          go_quiet (fail)
          go_wp2
          go_ret
          refine ⟨by rw [HB.out]; rfl, ?_⟩
          exact below_drewN (hb1.trans ((hbr.alloc hbr.size _).mono hb1.size)) _
        | some y =>
          obtain ⟨hpl, hfs, hy⟩ := find_fst hf
          have e1 : pV b b.length x.1 = some (pl b x.1 : Int) := by unfold pV; rw [if_pos hpl]
          rw [e1] at hlk
          have hak : alk b x = (y.2.toList == x.2.toList) := by unfold alk; rw [hf]; rfl
          have HAK := Lib.hid hak
          obtain ⟨p, hp⟩ : ∃ p, pl b x.1 = p := ⟨_, rfl⟩
          rw [hp] at hlk hpl hy
          obtain ⟨bb, offb, rfl, hbl2, d0, d1⟩ := ((H2.out.below hb1).below hbr).at_ hy
          have hne2 : ¬ wr.heap.size = bb := by omega
          have hd1 : (wr.alloc (.cells #[.string x.1, .string x.2] 39)).cell? ⟨bb, offb + p * 2 + 1, none⟩ = some (.string y.2) := by
            rw [World.cell?_alloc_lt _ _ _ (by exact hbl2)]; exact d1
          clear e1 hak hp hf hfs hy
          cases hq : (y.2.toList == x.2.toList) with
          | true =>
            have HS := Lib.hid (all_snoc HX.out HA.out (by rw [HAK.out]; exact hq))
            go_wp2
            go_quiet (fail)
            go_wp2
            go_roundw
            case rel => exact ⟨k + 1, by omega, by go_num, HS, below_drewN (hbr.alloc hbr.size _) _⟩
            case measure => simp [intOf]; omega
          | false =>
            have HB := Lib.hid (alike_bad (b := b) HX.out (by rw [HAK.out]; exact hq))
            go_wp2
            go_quiet (fail)
            go_wp2
            go_ret
            refine ⟨by rw [HB.out]; rfl, ?_⟩
            exact below_drewN (hb1.trans ((hbr.alloc hbr.size _).mono hb1.size)) _
      · obtain rfl : k = a.length := by omega
        have HB := Lib.hid (alike_all HN.out HA.out)
        clear HA
        go_wp2
        go_ret
        exact ⟨by rw [HB.out]; rfl, hb1.trans (hbr.mono hb1.size)⟩
  · have HB := Lib.hid (alike_len hn)
    have hn2 : ((a.length : Int) != (b.length : Int)) = true := by simp; omega
    have hn3 : (a.length != b.length) = true := by simp; omega
    clear ha hb hz hz2 hn
    go_enter Try.func21, Try.ntmps21
    go_wp2
    go_ret
    exact ⟨by rw [HB.out]; rfl, Below.refl _ _⟩

end Go.Proofs.Ytcookhjgajfalaa
