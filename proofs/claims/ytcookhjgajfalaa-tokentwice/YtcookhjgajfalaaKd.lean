/- Set, places, Once, Alike. -/
import Derived.Test.YtcookhjgajfalaaKc
import Derived.Deep.Onto
namespace Go.Proofs.Ytcookhjgajfalaa
open Go.RowKit Go.Lib

/-- where each name stands first, among the first k -/
def pV (xs : List Atr) (k : Nat) (t : ByteArray) : Option Int := if pl xs t < k then some (pl xs t : Int) else none
theorem pV_zero (xs : List Atr) (t : ByteArray) : pV xs 0 t = none := rfl
theorem pV_in {xs : List Atr} {k : Nat} {x : Atr} (hx : xs[k]? = some x) (h : pl xs x.1 < k) (t : ByteArray) : pV xs k t = pV xs (k + 1) t := by
  unfold pV
  by_cases h1 : pl xs t < k
  · rw [if_pos h1, if_pos (by omega)]
  · rw [if_neg h1]
    by_cases h2 : pl xs t = k
    · have hl := (List.getElem?_eq_some_iff.1 hx).1
      obtain ⟨y, hy, hy2⟩ := pl_at (xs := xs) (s := t) (by omega)
      rw [h2, hx] at hy
      rw [← Option.some.inj hy] at hy2
      rw [hy2] at h
      omega
    · rw [if_neg (by omega)]
theorem pV_new {xs : List Atr} {k : Nat} {x : Atr} (hx : xs[k]? = some x) (h : ¬ pl xs x.1 < k) (t : ByteArray) : (if t = x.1 then some (k : Int) else pV xs k t) = pV xs (k + 1) t := by
  have hk := pl_le_self hx
  have hl := (List.getElem?_eq_some_iff.1 hx).1
  by_cases e : t = x.1
  · rw [if_pos e, e]
    unfold pV
    rw [if_pos (by omega), show pl xs x.1 = k by omega]
  · rw [if_neg e]
    unfold pV
    by_cases h1 : pl xs t < k
    · rw [if_pos h1, if_pos (by omega)]
    · rw [if_neg h1]
      by_cases h2 : pl xs t = k
      · obtain ⟨y, hy, hy2⟩ := pl_at (xs := xs) (s := t) (by omega)
        rw [h2, hx] at hy
        rw [← Option.some.inj hy] at hy2
        exact absurd hy2.symm e
      · rw [if_neg (by omega)]
/-- short enough names -/
def Sz (xs : List Atr) : Prop := ∀ x ∈ xs, x.1.size ≤ maxLen

theorem run_mk (w : World) (z : Int) : (Instr.makeMap 63 (some (.int .i64 z))).run Try.prog w = .ok (.map (some w.heap.size)) (w.alloc (.map #[] 0)) := by
  simp [Instr.makeMap, run_underlying Try.underlying63, asInt, asIntOf]
set_option maxHeartbeats 2000000 in
theorem places_any (xs : List Atr) (A : Option Addr) (cap : Nat) (w : World) (h : RdA w A xs) (hl : xs.length ≤ 1000000) (hz : Sz xs) :
    Calls Try.prog 33 #[.slice A xs.length cap] w fun e w' => ∃ g, e = .returned (.map (some g)) ∧ w.heap.size ≤ g ∧ MapN w' g xs.length (pV xs xs.length) ∧ Below w.heap.size w w' := by
  have H := Lib.hid h
  have HZ := Lib.hid hz
  clear h hz
  have hmk := run_mk w xs.length
  go_enter Try.func33, Try.ntmps33
  go_wp2
  clear hmk
  go_loopw [13] (fun iv wr => ∃ k : Nat, k ≤ xs.length ∧ iv = .int .i64 k ∧ Hid (MapN wr w.heap.size k (pV xs k)) ∧ Below w.heap.size w wr) (fun iv _ => xs.length - (intOf iv).toNat)
  case atStart => exact ⟨0, Nat.zero_le _, rfl, Lib.hid ((MapN.new w).ext fun t => (pV_zero xs t).symm), (Below.refl _ _).alloc (Nat.le_refl _) _⟩
  case round =>
    obtain ⟨k, hk, rfl, HM, hb⟩ := hrel
    by_cases hlt : k < xs.length
    · obtain ⟨x, hx⟩ := get_lt hlt
      have HX := Lib.hid hx
      obtain ⟨b, off, rfl, hbl, c0, c1⟩ := (H.out.below hb).at_ hx
      clear hx
      have hne : ¬ wr.heap.size = b := by omega
      have hmlt := HM.out.lt
      have hmm := HM.out.ofBlock (w' := wr.alloc (.cells #[.string x.1, .string x.2] 39)) (Below.heap_alloc _ _ _ hmlt)
      have hlk := hmm.look x.1 (HZ.out x (List.mem_of_getElem? HX.out))
      have HMM := Lib.hid hmm
      clear hmm
      by_cases hp : pl xs x.1 < k
      · have e1 : (pV xs k x.1).isSome = true := by unfold pV; rw [if_pos hp]; rfl
        rw [e1] at hlk
        obtain ⟨z, hzz⟩ : ∃ z, (pV xs k x.1).getD 0 = z := ⟨_, rfl⟩
        rw [hzz] at hlk
        have HI := Lib.hid (fun t => pV_in HX.out hp t)
        clear hzz e1 hp
        go_wp2
        go_roundw
        case rel => exact ⟨k + 1, by omega, by go_num, Lib.hid ((HMM.out.mono (by omega)).ext HI.out), hb.alloc hb.size _⟩
        case measure => simp [intOf]; omega
      · have e1 : (pV xs k x.1).isSome = false := by unfold pV; rw [if_neg hp]; rfl
        rw [e1] at hlk
        obtain ⟨z, hzz⟩ : ∃ z, (pV xs k x.1).getD 0 = z := ⟨_, rfl⟩
        rw [hzz] at hlk
        have HI := Lib.hid (fun t => pV_new HX.out hp t)
        clear hzz e1 hp
        obtain ⟨w2, hrun, hm2, hg2⟩ := HMM.out.set x.1 (HZ.out x (List.mem_of_getElem? HX.out)) (by unfold maxLen; omega) (k : Int)
        have HM2 := Lib.hid hm2
        clear hm2
        go_wp2
        go_roundw
        case rel => exact ⟨k + 1, by omega, by go_num, Lib.hid (HM2.out.ext HI.out), (hb.alloc hb.size _).grown hg2 (by have := hb.size; simp; omega) (fun r e => by cases e; omega)⟩
        case measure => simp [intOf]; omega
    · obtain rfl : k = xs.length := by omega
      go_wp2
      go_ret
      exact ⟨_, rfl, Nat.le_refl _, HM.out, hb⟩

theorem setL_len (xs : List Atr) (s v : ByteArray) : (setL xs s v).length ≤ xs.length + 1 := by
  unfold setL
  split <;> simp
theorem cellsA_set (xs : List Atr) (p : Nat) (x : Atr) (v : ByteArray) (hx : xs[p]? = some x) : cellsA (xs.set p (x.1, v)) = (cellsA xs).set (p * 2 + 1) (.string v) := by
  induction xs generalizing p with
  | nil => simp at hx
  | cons y xs ih =>
    have hc : ∀ y xs, cellsA (y :: xs) = .string y.1 :: .string y.2 :: cellsA xs := fun _ _ => rfl
    cases p with
    | zero =>
      simp at hx
      subst hx
      simp [hc]
    | succ p =>
      have := ih p (by simpa using hx)
      rw [List.set_cons_succ, hc, hc, this, show (p + 1) * 2 + 1 = p * 2 + 1 + 1 + 1 by omega]
      simp

set_option maxHeartbeats 2000000 in
theorem set_any (xs : List Atr) (s v : ByteArray) (A : Option Addr) (cap : Nat) (w : World) (h : RdA w A xs) (hl : xs.length ≤ 1000000) (hA : A = none → xs = []) :
    Calls Try.prog 18 #[.slice A xs.length cap, .string s, .string v] w (GivesA (setL xs s v) w) := by
  obtain ⟨i0, hi, hz0, hz1, hz2⟩ := info_parts infoAt
  have HC := Lib.hid (clone_any xs A cap w h hl hA)
  clear h hA
  go_enter Try.func18, Try.ntmps18
  go_wp2_with fail
  refine HC.out.mono ?_
  rintro e w1 ⟨u, rfl, hown, hb1⟩
  obtain ⟨B, c1, rfl, _, hcc, _, hrd⟩ := RdA.own hown
  have HP := Lib.hid (place_any xs s B c1 w1 hrd hl)
  have HO := Lib.hid hown
  have HR := Lib.hid hrd
  clear hown hrd HC
  by_cases hp : pl xs s < xs.length
  · have hS : setL xs s v = xs.set (pl xs s) (s, v) := if_pos hp
    rw [fst_hit hp] at HP
    obtain ⟨x, hx, hn⟩ := pl_at hp
    obtain ⟨P, hP⟩ : ∃ P, pl xs s = P := ⟨_, rfl⟩
    rw [hP] at HP hp hx hS
    have hcs := cellsA_set xs P x v hx
    rw [hn] at hcs
    have HS := Lib.hid hS
    have HCS := Lib.hid hcs
    obtain ⟨g, off, rfl, hbl, c0, c1⟩ := HR.out.at_ hx
    have hoff : off = 0 := by
      rcases HO.out.2 with ⟨e, _⟩ | ⟨g', cap', cur, e, _⟩
      · cases e
      · injection e with e1 e2 e3
        injection e1 with e1
        injection e1
    have HOF := Lib.hid hoff
    clear hx hn hP hS hcs hoff
    go_wp2_with fail
    refine HP.out.mono ?_
    rintro e w2 ⟨rfl, hb2⟩
    have hown2 := own_keep HO.out hb2
    have d1 := (hb2.cell (p := ⟨g, off + P * 2 + 1, none⟩) hbl).trans c1
    have hf : ∀ j, w2.frozen? ⟨g, j, none⟩ = false := by
      intro j
      rw [HOF.out] at hown2
      exact hown2.frozenAt j
    have f1 := hf (off + P * 2 + 1)
    have HB2 := Lib.hid hb2
    have HO2 := Lib.hid hown2
    have HB1 := Lib.hid hb1
    clear hb2 hown2 c0 c1 hf hb1 hbl hi hz0 hz1 hz2 HP HR
    go_wp2
    go_ret
    have hbb := HB1.out.trans (HB2.out.mono HB1.out.size)
    have ho2 := HO2.out
    have ho1 := HO.out
    obtain rfl := HOF.out
    refine ⟨_, rfl, ?_, hbb.setCell (p := ⟨g, 0 + P * 2 + 1, none⟩) (ho1.lt g rfl).1 _⟩
    rw [HS.out, HCS.out, List.length_set, Nat.zero_add]
    exact (ho2.stored (P * 2 + 1) (.string v)).1
  · have hS : setL xs s v = xs ++ [(s, v)] := if_neg hp
    rw [fst_miss hp] at HP
    have HS := Lib.hid hS
    clear hS hp
    go_wp2_with fail
    refine HP.out.mono ?_
    rintro e w2 ⟨rfl, hb2⟩
    have HO2 := Lib.hid (own_keep HO.out hb2)
    have hbb := hb1.trans (hb2.mono hb1.size)
    clear hb2 HP HR
    go_wp2_with (at_builtin; refine wpList_append_own _ rfl _ _ 34 rfl w.heap.size 39 i0 _ 2 32 Try.underlying34 hi hz0 hz1 hz2 rfl (by decide) _ _ _ rfl (HO2.out.alloc _) ⟨w2.heap.size, 0, none⟩ 1 1 (cellsA [(s, v)]) rfl rfl ?q1 (cellsA_one _) ?q4 ?q5 ?q6 ?_)
    case q1 => exact encA_cells (s, v) w2
    case q4 => unfold maxLen; omega
    case q5 => omega
    case q6 => have := hbb.size; simp; omega
    intro v' w3 hown3 hgrow _
    go_wp2
    go_ret
    refine ⟨_, rfl, ?_, (hbb.alloc hbb.size _).grown hgrow (by have := hbb.size; simp; omega) (fun r e => (HO2.out.lt r e).1)⟩
    rw [HS.out, cellsA_snoc, List.length_append]
    exact hown3

set_option maxHeartbeats 2000000 in
theorem once_call (xs : List Atr) (A : Option Addr) (cap : Nat) (w : World) (h : RdA w A xs) (hl : xs.length ≤ 1000000) (hz : Sz xs) :
    Calls Try.prog 20 #[.slice A xs.length cap] w (GivesA (once xs) w) := by
  obtain ⟨i0, hi, hz0, hz1, hz2⟩ := info_parts infoAt
  have HC := Lib.hid (places_any xs A cap w h hl hz)
  have H := Lib.hid h
  have HZ := Lib.hid hz
  clear h hz
  go_enter Try.func20, Try.ntmps20
  go_wp2_with fail
  refine HC.out.mono ?_
  rintro e w1 ⟨g, rfl, hg, hm, hb1⟩
  have HM := Lib.hid hm
  have hgl := hm.lt
  clear hm HC
  go_wp2
  go_loopw [4, 11] (fun v iv wr => ∃ k : Nat, k ≤ xs.length ∧ iv = .int .i64 k ∧ Hid (wr.ownsRow w1.heap.size 39 2 v (once (xs.take k)).length (cellsA (once (xs.take k)))) ∧ Below w1.heap.size w1 wr) (fun _ iv _ => xs.length - (intOf iv).toNat)
  case atStart => exact ⟨0, Nat.zero_le _, rfl, Lib.hid ⟨by simp [once, cellsA], .inl ⟨rfl, rfl⟩⟩, Below.refl _ _⟩
  case round =>
    obtain ⟨k, hk, rfl, HO, hb⟩ := hrel
    by_cases hlt : k < xs.length
    · obtain ⟨x, hx⟩ := get_lt hlt
      have HT := Lib.hid (once_take hx)
      have hps := pl_le_self hx
      have hsz := HZ.out x (List.mem_of_getElem? hx)
      obtain ⟨b, off, rfl, hbl, c0, c1⟩ := ((H.out.below hb1).below hb).at_ hx
      clear hx
      have hne : ¬ wr.heap.size = b := by omega
      have hmm := (HM.out.below hb hgl).ofBlock (w' := wr.alloc (.cells #[.string x.1, .string x.2] 39)) (Below.heap_alloc _ _ _ (by have := hb.size; omega))
      have hlk := hmm.look0 x.1 hsz
      have e1 : (pV xs xs.length x.1).getD 0 = (pl xs x.1 : Int) := by unfold pV; rw [if_pos (by omega)]; rfl
      rw [e1] at hlk
      clear hmm e1 hsz
      have hle : (once (xs.take k)).length ≤ k := Nat.le_trans (once_len _) (List.length_take_le _ _)
      obtain ⟨p, hp⟩ : ∃ p, pl xs x.1 = p := ⟨_, rfl⟩
      rw [hp] at hlk HT hps
      clear hp
      by_cases hpk : p = k
      · subst hpk
        have hT := HT.out
        rw [if_pos rfl] at hT
        have HT2 := Lib.hid hT
        clear hT HT hps
        obtain ⟨O, hO⟩ : ∃ O, once (xs.take p) = O := ⟨_, rfl⟩
        rw [hO] at HO HT2 hle
        clear hO
        go_wp2_with (at_builtin; refine wpList_append_own _ rfl _ _ 34 rfl w1.heap.size 39 i0 _ 2 32 Try.underlying34 hi hz0 hz1 hz2 rfl (by decide) _ _ _ rfl ((HO.out.alloc _).alloc _) ⟨wr.heap.size + 1, 0, none⟩ 1 1 (cellsA [x]) rfl rfl ?q1 (cellsA_one _) ?q4 ?q5 ?q6 ?_)
        case q1 =>
          have := encA_cells x (wr.alloc (.cells #[.string x.1, .string x.2] 39))
          simpa using this
        case q4 => unfold maxLen; omega
        case q5 => omega
        case q6 => have := hb.size; simp; omega
        intro v' w2 hown hgrow _
        go_wp2
        go_roundw
        case rel =>
          refine ⟨p + 1, by omega, by go_num, Lib.hid ?_, ?_⟩
          · rw [HT2.out, cellsA_snoc, List.length_append]
            exact hown
          · exact ((hb.alloc hb.size _).alloc (by have := hb.size; simp; omega) _).grown hgrow (by have := hb.size; simp; omega) (fun r e => (HO.out.lt r e).1)
        case measure => simp [intOf]; omega
      · have hT := HT.out
        rw [if_neg hpk] at hT
        have HT2 := Lib.hid hT
        have hd : ((p : Int) == (k : Int)) = false := by simp; omega
        clear hT HT
        go_wp2
        go_roundw
        case rel => exact ⟨k + 1, by omega, by go_num, Lib.hid (by rw [HT2.out]; exact HO.out.alloc _), hb.alloc hb.size _⟩
        case measure => simp [intOf]; omega
    · obtain rfl : k = xs.length := by omega
      have HO' := HO.out
      rw [List.take_of_length_le (Nat.le_refl _)] at HO'
      have HP := Lib.hid HO'
      clear HO HO'
      go_wp2
      go_ret
      exact ⟨_, rfl, World.ownsRow.mono HP.out hb1.size, hb1.trans (hb.mono hb1.size)⟩

end Go.Proofs.Ytcookhjgajfalaa
