/- The law TextWords, walked. -/
import Derived.Test.YtfjbelkpblgfiaaDoorTh
import Derived.Test.YtfjbelkpblgfiaaDoorWl
import Derived.Test.YtfjbelkpblgfiaaDoorWy
import Derived.Deep.RegionWith
import Derived.Deep.DeepCutAuto
import Derived.Deep.QuietTactic
import Derived.BigQuiet
namespace Go.Proofs.YtfjbelkpblgfiaaDoor
open Go.RowKit
attribute [local go_sem] Oper.semAt_some

theorem mix_stay (l : List Int) (k : Nat) (h : k < l.length) (hc : Wx.low (l[k]?.getD 0) = l[k]?.getD 0) : Wx.mix l (k + 1) = Wx.mix l k := by
  rw [← Wx.mix_set l k h, hc]
  have hl := Wx.mix_len l k (by omega)
  have ha := Wx.mix_at l k h
  rw [← ha, List.getElem?_eq_getElem (by omega), Option.getD_some]
  exact List.set_getElem_self _

/-- the first k are blanks, and no more -/
def FromAt (s : ByteArray) (k : Nat) : Prop := k ≤ s.size ∧ (∀ j, j < k → Wx.blankB ((bs s)[j]?.getD 0) = true) ∧ (k < s.size → Wx.blankB ((bs s)[k]?.getD 0) = false)
theorem all_step {p : Nat → Bool} {k : Nat} (h : ∀ j, j < k → p j = true) (hk : p k = true) : ∀ j, j < k + 1 → p j = true := by
  intro j hj
  rcases Nat.lt_or_ge j k with h1 | h1
  · exact h j h1
  · obtain rfl : j = k := by omega
    exact hk

/-- from t on there are blanks alone, and no more ahead -/
def ToAt (s : ByteArray) (k t : Nat) : Prop := k ≤ t ∧ t ≤ s.size ∧ (∀ j, t ≤ j → j < s.size → Wx.blankB ((bs s)[j]?.getD 0) = true) ∧ (k < t → Wx.blankB ((bs s)[t - 1]?.getD 0) = false)
theorem cut_is (b : UInt8) : Wx.cut.contains b = Wx.blankB (b.toNat : Int) := by
  have h : ∀ n : Nat, n < 256 → Wx.cut.contains (UInt8.ofNat n) = Wx.blankB (n : Int) := by decide +kernel
  have := h b.toNat b.toNat_lt
  simpa using this
theorem byte_is {s : ByteArray} {j : Nat} {b : UInt8} (h : s.data.toList[j]? = some b) : (bs s)[j]?.getD 0 = (b.toNat : Int) ∧ j < s.size := by
  constructor
  · unfold bs; rw [List.getElem?_map, h]; rfl
  · have := (List.getElem?_eq_some_iff.1 h).1
    simpa using this
theorem trim_is (s : ByteArray) (k t : Nat) (hF : FromAt s k) (hT : ToAt s k t) : (⟨(Lib.trimS s.data.toList Wx.cut).toArray⟩ : ByteArray) = s.extract k t := by
  have hl : s.data.toList.length = s.size := by simp
  have key : Lib.trimS s.data.toList Wx.cut = (s.data.toList.take t).drop k := by
    unfold Lib.trimS
    by_cases hk : k < s.size
    · have hkt : k < t := by
        rcases Nat.lt_or_ge k t with h | h
        · exact h
        · have h1 := hT.2.2.1 k h hk
          rw [hF.2.2 hk] at h1
          cases h1
      rw [Lib.trimRightS_take _ _ t (by rw [hl]; exact hT.2.1) (fun j b h1 h2 => by rw [cut_is, ← (byte_is h2).1]; exact hT.2.2.1 j h1 (byte_is h2).2)
        (fun b h1 h2 => by rw [cut_is, ← (byte_is h2).1]; exact hT.2.2.2 hkt)]
      refine Lib.trimLeftS_drop _ _ k (by simp; omega) (fun j b h1 h2 => ?_) (fun b h2 => ?_)
      · rw [List.getElem?_take, if_pos (by omega)] at h2
        rw [cut_is, ← (byte_is h2).1]; exact hF.2.1 j h1
      · rw [List.getElem?_take, if_pos (by omega)] at h2
        rw [cut_is, ← (byte_is h2).1]; exact hF.2.2 hk
    · have hks : k = s.size := by have := hF.1; omega
      have hts : t = s.size := by have := hT.1; have := hT.2.1; omega
      rw [Lib.trimRightS_take _ _ 0 (by omega) (fun j b h1 h2 => by rw [cut_is, ← (byte_is h2).1]; exact hF.2.1 j (by rw [hks]; exact (byte_is h2).2)) (fun b h1 _ => absurd h1 (by omega))]
      rw [hks, hts, ← hl, List.take_length, List.drop_length]
      rfl
  refine ByteArray.ext ?_
  rw [key, ByteArray.data_extract]
  refine Array.toList_inj.1 ?_
  rw [Array.toList_extract]
  simp [List.extract_eq_take_drop, List.drop_take]

theorem infoStr : (Tryd.prog.info? 9).map (fun i => (i.zero, i.size, i.bytes)) = some (some (.string ⟨#[]⟩), 1, 16) := by kernel_rfl
/-- behind the first m rounds: the words, the open word -/
def stE (l : List Int) (m : Nat) : List (List Int) × List Int := if m ≤ l.length then Wx.st l m else (Wx.words l, [])
def txt (x : List Int) : Value := .string (strOfNums x)
def WordsI (s : ByteArray) (wd : World) (m : Nat) (u9 u10 : Value) (wr : World) : Prop :=
  wr.ownsRow wd.heap.size 9 1 u9 (stE (bs s) m).1.length ((stE (bs s) m).1.map txt) ∧ wr.ownsRow wd.heap.size 5 1 u10 (stE (bs s) m).2.length ((stE (bs s) m).2.map (Value.int .u8)) ∧ Below wd.heap.size wd wr
theorem wordsI_0 (s : ByteArray) (wd : World) : WordsI s wd 0 (.slice (some ⟨wd.heap.size, 0, none⟩) 0 0) (.slice (some ⟨wd.heap.size + 1, 0, none⟩) 0 0) ((wd.alloc (.cells #[] 9)).alloc (.cells #[] 5)) := by
  have e : stE (bs s) 0 = ([], []) := by unfold stE; rw [if_pos (by omega)]; rfl
  unfold WordsI
  rw [e]
  refine ⟨?_, ?_, ((Below.refl _ _).alloc (Nat.le_refl _) _).alloc (by simp) _⟩
  · exact (World.ownsRow_lit (e := 9) (size := 1) wd #[] 0 (Nat.le_refl _) (by decide) rfl).alloc _
  · have := World.ownsRow_lit (base := wd.heap.size) (e := 5) (size := 1) (wd.alloc (.cells #[] 9)) #[] 0 (by simp) (by decide) rfl
    rw [World.size_alloc] at this
    exact this
/-- rows of unlike types lie apart -/
theorem own_apart {w : World} {b1 b2 s1 s2 n1 n2 g : Nat} {e1 e2 : TypeId} {v1 v2 : Value} {x1 x2 : List Value} (h1 : w.ownsRow b1 e1 s1 v1 n1 x1) (h2 : w.ownsRow b2 e2 s2 v2 n2 x2) (hne : e1 ≠ e2) (k1 : v1.ownBlock = some g) (k2 : v2.ownBlock = some g) : False := by
  rcases h1.2 with ⟨rfl, _⟩ | ⟨g1, c1, u1, rfl, _, hh1, _⟩
  · cases k1
  · rcases h2.2 with ⟨rfl, _⟩ | ⟨g2, c2, u2, rfl, _, hh2, _⟩
    · cases k2
    · cases k1
      cases k2
      rw [hh1] at hh2
      injection hh2 with hh
      injection hh with _ h
      exact hne h
theorem st_len (l : List Int) : ∀ k, (Wx.st l k).1.length ≤ k ∧ (Wx.st l k).2.length ≤ k
  | 0 => ⟨Nat.le_refl _, Nat.le_refl _⟩
  | k + 1 => by
    have ih := st_len l k
    unfold Wx.st
    split
    · split
      · exact ⟨by simp; omega, by simp⟩
      · exact ⟨by simp; omega, by simp⟩
    · exact ⟨by simp; omega, by simp; omega⟩
theorem stE_lo {l : List Int} {m : Nat} (h : m ≤ l.length) : stE l m = Wx.st l m := by unfold stE; rw [if_pos h]

theorem words_len (l : List Int) : (Wx.words l).length ≤ l.length + 1 := by
  have := st_len l l.length
  unfold Wx.words
  split
  · omega
  · rw [List.length_append]; simp; omega
theorem stE_next (l : List Int) (m : Nat) (h : m ≤ l.length) : stE l (m + 1) = if m < l.length ∧ Wx.blankB (l[m]?.getD 0) = false then ((stE l m).1, (stE l m).2 ++ [l[m]?.getD 0]) else (if (stE l m).2 = [] then (stE l m).1 else (stE l m).1 ++ [(stE l m).2], []) := by
  rw [stE_lo h]
  by_cases hlt : m < l.length
  · rw [stE_lo (by omega), Wx.st]
    cases hb : Wx.blankB (l[m]?.getD 0) with
    | true => simp
    | false => simp [hlt]
  · obtain rfl : m = l.length := by omega
    unfold stE
    rw [if_neg (by omega), if_neg (by omega)]
    rfl

/-- a slice of strings in memory -/
def RdS (w : World) (A : Option Addr) (xs : List ByteArray) : Prop :=
  xs = [] ∨ ∃ b off, A = some ⟨b, off, none⟩ ∧ b < w.heap.size ∧ ∀ i s, xs[i]? = some s → w.cell? ⟨b, off + i, none⟩ = some (.string s)
theorem RdS.pos {w : World} {A : Option Addr} {xs : List ByteArray} (h : RdS w A xs) (hx : 0 < xs.length) : ∃ b off, A = some ⟨b, off, none⟩ ∧ b < w.heap.size ∧ ∀ i s, xs[i]? = some s → w.cell? ⟨b, off + i, none⟩ = some (.string s) := by
  rcases h with rfl | h
  · simp at hx
  · exact h
theorem RdS.below {w w' : World} {A : Option Addr} {xs : List ByteArray} (h : RdS w A xs) (hb : Below w.heap.size w w') : RdS w' A xs := by
  rcases h with h | ⟨b, off, rfl, hlt, h⟩
  · exact .inl h
  · exact .inr ⟨b, off, rfl, Nat.lt_of_lt_of_le hlt hb.size, fun i s hs => (hb.cell (p := ⟨b, off + i, none⟩) hlt).trans (h i s hs)⟩
theorem own_rds {w : World} {base : Nat} {e : TypeId} {v : Value} {n : Nat} {xs : List ByteArray} (h : w.ownsRow base e 1 v n (xs.map Value.string)) : ∃ A cap, v = .slice A n cap ∧ RdS w A xs := by
  have hl : xs.length = n := by have := h.1; simpa using this
  have hh := h
  rcases h.2 with ⟨rfl, hn⟩ | ⟨g, cap, cur, rfl, _, hg, hnc, _⟩
  · subst hn
    exact ⟨none, 0, rfl, .inl (List.eq_nil_of_length_eq_zero hl)⟩
  · refine ⟨some ⟨g, 0, none⟩, cap, rfl, .inr ⟨g, 0, rfl, (Array.getElem?_eq_some_iff.1 hg).1, fun i s hs => ?_⟩⟩
    have hi := (List.getElem?_eq_some_iff.1 hs).1
    rw [Nat.zero_add, hh.cellAt i (by omega), List.getElem?_map, hs]
    rfl

set_option maxRecDepth 100000 in
set_option maxHeartbeats 1000000 in
theorem words_short (s : ByteArray) (w : World) (hs : s.size ≤ 500) : Calls Tryd.prog 3 #[.string s] w fun e w' => e = .returned (.bool true) ∧ Below w.heap.size w w' := by
  have kv := fun (w : World) => Lib.run_convert_string_bytes (P := Tryd.prog) w 9 23 5 s Tryd.underlying9 Tryd.underlying23 Tryd.underlying5
  have hbl := bs_len s
  have HL := Lib.hid hbl
  clear hbl
  have td : decide ((500 : Int) < (s.size : Int)) = false := by simp; omega
  go_enter Tryd.func3, Tryd.ntmps3
  go_wp2_with (go_at_call 4; refine (head1_any _).mono ?_; rintro e w1 ⟨rfl, hb1⟩)
  obtain ⟨h0, hb0⟩ := rowB_new w1 s
  go_loopw [23] (fun i wr => ∃ k : Nat, k ≤ s.size ∧ i = .int .i64 k ∧ RowB wr w1.heap.size (Wx.mix (bs s) k) ∧ Below w1.heap.size w1 wr) (fun i _ => s.size - (intOf i).toNat)
  case atStart => exact ⟨0, by omega, rfl, by simpa [Wx.mix] using h0, hb0⟩
  case round =>
    obtain ⟨k, hk, rfl, hrow, hB⟩ := hrel
    have hml := Wx.mix_len (bs s) k (by rw [HL.out]; exact hk)
    rw [HL.out] at hml
    clear kv h0 hb0
    by_cases hlt : k < s.size
    · have hc := hrow.cell k (by omega)
      have hf := hrow.fz k (by omega)
      have hat := Wx.mix_at (bs s) k (by rw [HL.out]; exact hlt)
      have hset := Wx.mix_set (bs s) k (by rw [HL.out]; exact hlt)
      have hstay := mix_stay (bs s) k (by rw [HL.out]; exact hlt)
      have hrg := getD_u8 (bs_rng s) k
      obtain ⟨c, hcc⟩ : ∃ c, (bs s)[k]?.getD 0 = c := ⟨_, rfl⟩
      rw [hat, hcc] at hc
      rw [hcc] at hset hrg hstay
      have HS := Lib.hid hset
      have HT := Lib.hid hstay
      clear hat hset hcc hml hstay
      by_cases hup : 65 ≤ c ∧ c ≤ 90
      · have hlo : Wx.low c = c + 32 := by unfold Wx.low; rw [if_pos hup]
        have HLO := Lib.hid hlo
        clear hlo
        obtain ⟨h65, h90⟩ := hup
        go_wp2
        go_roundw
        case rel => exact ⟨k + 1, by omega, by go_num, by rw [← HS.out, HLO.out]; exact hrow.set k _, hB.setCell (p := ⟨w1.heap.size, k, none⟩) (Nat.le_refl _) _⟩
        case measure => simp [intOf]; omega
      · have hlo : Wx.low c = c := by unfold Wx.low; rw [if_neg hup]
        have HLO := Lib.hid (HT.out hlo)
        clear hlo
        have hup' : c < 65 ∨ 65 ≤ c ∧ 90 < c := by omega
        clear hup
        rcases hup' with h65 | ⟨h65, h90⟩
        all_goals
          go_wp2
          go_roundw
          case rel => exact ⟨k + 1, by omega, by go_num, by rw [HLO.out]; exact hrow, hB⟩
          case measure => simp [intOf]; omega
    · obtain rfl : k = s.size := by omega
      have hm : Wx.mix (bs s) s.size = (bs s).map Wx.low := by
        unfold Wx.mix
        rw [← HL.out, List.take_length, List.drop_length, List.append_nil]
      rw [hm] at hrow hml
      have hrd : RowB wr.drew w1.heap.size ((bs s).map Wx.low) := hrow
      have hcv := fun cap => hrd.conv (P := Tryd.prog) (u := 9) Tryd.underlying23 Tryd.underlying5 Tryd.underlying9 s.size cap hml.symm
      have HML := Lib.hid hml
      clear hml hm hk hlt
      have tq : ((strOfNums ((bs s).map Wx.low)).toList != (strOfNums ((bs s).map Wx.low)).toList) = false := by simp
      have hBw : Below w.heap.size w wr := hb1.trans (hB.mono hb1.size)
      go_upto_region 12 with fail
      go_cut [44] (fun s44 wx => s44 = .bool false ∧ Below w.heap.size w wx)
      case first =>
        go_region_with (first | (go_at_call 5; refine (lower_any s _ (by omega)).mono ?_; rintro e w2 ⟨rfl, hb2⟩; have hcv2 := fun cap => (hrd.keep hb2).conv (P := Tryd.prog) (u := 9) Tryd.underlying23 Tryd.underlying5 Tryd.underlying9 s.size cap HML.out.symm))
        all_goals
          go_wp2_with fail
          go_meet
          exact ⟨rfl, hBw.drew.trans (hb2.mono hBw.size)⟩
      case rest =>
        obtain ⟨rfl, hBc⟩ := hcut
        clear hcv hrow hrd tq hB hBw
        go_upto_block 2 with fail
        go_cut [7] (fun s7 wx => wx = wc ∧ ∃ k : Nat, s7 = .int .i64 k ∧ FromAt s k)
        case first =>
          go_wp2_with fail
          go_loop [7] (fun v => ∃ k : Nat, k ≤ s.size ∧ v = .int .i64 k ∧ ∀ j, j < k → Wx.blankB ((bs s)[j]?.getD 0) = true) (fun v => s.size - (intOf v).toNat)
          case atStart => exact ⟨0, by omega, rfl, fun j hj => absurd hj (by omega)⟩
          case round =>
            obtain ⟨k, hk, rfl, hall⟩ := hrel
            have HA := Lib.hid hall
            clear hall
            by_cases hlt : k < s.size
            · have hg : (bs s)[k]?.getD 0 = ((s[k]'hlt).toNat : Int) := by rw [bs_get s k hlt]; rfl
              have HG := Lib.hid hg
              clear hg
              cases hb : Wx.blankB ((s[k]'hlt).toNat : Int) with
              | true =>
                go_wp2_with (go_at_call 6; refine (blank1_any _ _).mono ?_; rintro e w' ⟨rfl, rfl⟩)
                go_round
                case rel => exact ⟨k + 1, by omega, by go_num, all_step HA.out (by rw [HG.out]; exact hb)⟩
                case measure => simp [intOf]; omega
              | false =>
                go_wp2_with (go_at_call 6; refine (blank1_any _ _).mono ?_; rintro e w' ⟨rfl, rfl⟩)
                go_meet
                exact ⟨rfl, k, rfl, hk, HA.out, fun _ => by rw [HG.out]; exact hb⟩
            · go_wp2
              go_meet
              exact ⟨rfl, k, rfl, hk, HA.out, fun h => absurd h hlt⟩
        case rest =>
          obtain ⟨rfl, k, rfl, hF⟩ := hcut
          go_upto_block 4 with fail
          go_cut [8] (fun s8 wx => wx = wc ∧ ∃ t : Nat, s8 = .int .i64 t ∧ ToAt s k t)
          case first =>
            go_wp2_with fail
            have hks := hF.1
            have HF := Lib.hid hF
            clear hF
            go_loop [8] (fun v => ∃ t : Nat, k ≤ t ∧ t ≤ s.size ∧ v = .int .i64 t ∧ ∀ j, t ≤ j → j < s.size → Wx.blankB ((bs s)[j]?.getD 0) = true) (fun v => (intOf v).toNat)
            case atStart => exact ⟨s.size, hks, Nat.le_refl _, rfl, fun j h1 h2 => absurd h2 (by omega)⟩
            case round =>
              obtain ⟨t, hkt, hts, rfl, hall⟩ := hrel
              have HA := Lib.hid hall
              clear hall
              by_cases hlt : k < t
              · obtain ⟨m, rfl⟩ : ∃ m, t = m + 1 := ⟨t - 1, by omega⟩
                have hmm : ((m + 1 : Nat) : Int) - 1 = (m : Int) := by omega
                have hms : m < s.size := by omega
                have hg : (bs s)[m]?.getD 0 = ((s[m]'hms).toNat : Int) := by rw [bs_get s m hms]; rfl
                have HG := Lib.hid hg
                clear hg
                cases hb : Wx.blankB ((s[m]'hms).toNat : Int) with
                | true =>
                  go_wp2_with (go_at_call 6; refine (blank1_any _ _).mono ?_; rintro e w' ⟨rfl, rfl⟩)
                  go_round
                  case rel =>
                    refine ⟨m, by omega, by omega, by go_num, fun j h1 h2 => ?_⟩
                    rcases Nat.eq_or_lt_of_le h1 with e | e
                    · subst e; rw [HG.out]; exact hb
                    · exact HA.out j e h2
                  case measure => simp [intOf]
                | false =>
                  go_wp2_with (go_at_call 6; refine (blank1_any _ _).mono ?_; rintro e w' ⟨rfl, rfl⟩)
                  go_meet
                  exact ⟨rfl, m + 1, by go_num, hkt, hts, HA.out, fun _ => by rw [Nat.add_sub_cancel, HG.out]; exact hb⟩
              · go_wp2
                go_meet
                exact ⟨rfl, t, rfl, hkt, hts, HA.out, fun h => absurd h hlt⟩
          case rest =>
            obtain ⟨rfl, t, rfl, hT⟩ := hcut
            have hkt := hT.1
            have hts := hT.2.1
            have htr := trim_is s k t hF hT
            have HTR := Lib.hid htr
            clear htr hF hT
            have tq : ((s.extract k t).toList != (s.extract k t).toList) = false := by simp
            go_upto_region 21 with fail
            go_cut [78] (fun s78 wx => s78 = .bool false ∧ Below w.heap.size w wx)
            case first =>
              go_region_with (first | (go_at_call 7; refine (Trim_any s _ (by omega)).mono ?_; rw [HTR.out]; rintro e w2 ⟨rfl, hb2⟩))
              all_goals
                go_wp2_with fail
                go_meet
                exact ⟨rfl, hBc.drew.trans (hb2.mono hBc.size)⟩
            case rest =>
              obtain ⟨rfl, hBd⟩ := hcut
              clear tq hBc
              obtain ⟨wd, rfl⟩ : ∃ wd, wd = wc := ⟨_, rfl⟩
              clear HTR hkt hts
              obtain ⟨iS, hiS, hzS0, hzS1, hzS2⟩ := info_parts infoStr
              obtain ⟨i0, hi, hz0, hz1, hz2⟩ := info_parts infoU8
              go_wp2
              go_loopw [9, 10, 11] (fun u9 u10 i wr => ∃ m : Nat, m ≤ s.size + 1 ∧ i = .int .i64 m ∧ WordsI s wd m u9 u10 wr) (fun _ _ i _ => s.size + 1 - (intOf i).toNat)
              case atStart => exact ⟨0, by omega, rfl, wordsI_0 s wd⟩
              case round =>
                obtain ⟨m, hm, rfl, h9, h10, hB9⟩ := hrel
                have hstl : (stE (bs s) m).1.length ≤ 501 ∧ (stE (bs s) m).2.length ≤ 501 := by
                  by_cases hq : m ≤ (bs s).length
                  · rw [stE_lo hq]; have := st_len (bs s) m; rw [HL.out] at hq; omega
                  · unfold stE; rw [if_neg hq]; have := words_len (bs s); rw [HL.out] at this; exact ⟨by simp; omega, by simp⟩
                have hnx : m ≤ s.size → stE (bs s) (m + 1) = if m < s.size ∧ Wx.blankB ((bs s)[m]?.getD 0) = false then ((stE (bs s) m).1, (stE (bs s) m).2 ++ [(bs s)[m]?.getD 0]) else (if (stE (bs s) m).2 = [] then (stE (bs s) m).1 else (stE (bs s) m).1 ++ [(stE (bs s) m).2], []) := by
                  intro h; have := stE_next (bs s) m (by rw [HL.out]; exact h); rw [HL.out] at this; exact this
                obtain ⟨⟨ws, cur⟩, hst⟩ : ∃ x, stE (bs s) m = x := ⟨_, rfl⟩
                rw [hst] at h9 h10 hstl hnx
                have HST := Lib.hid hst
                have HNX := Lib.hid hnx
                clear hst hnx
                simp only at h9 h10 hstl
                obtain ⟨hl1, hl2⟩ := hstl
                obtain ⟨A10, c10, rfl, _, _, _, hrd10⟩ := Rd.own h10
                have hbz := hB9.size
                by_cases hle : m ≤ s.size
                · by_cases hlt : m < s.size
                  · have hg : (bs s)[m]?.getD 0 = ((s[m]'hlt).toNat : Int) := by rw [bs_get s m hlt]; rfl
                    have HG := Lib.hid hg
                    clear hg
                    cases hb : Wx.blankB ((s[m]'hlt).toNat : Int) with
                    | false =>
                      have hnext := HNX.out hle
                      rw [if_pos ⟨hlt, by rw [HG.out]; exact hb⟩, HG.out] at hnext
                      have HN := Lib.hid hnext
                      clear hnext
                      have hcc := (s[m]'hlt).toNat_lt
                      go_wp2_with (first
                        | (go_at_call 6; refine (blank1_any _ _).mono ?_; rintro e w' ⟨rfl, rfl⟩)
                        | (at_builtin; refine wpList_append_own _ rfl _ _ 23 rfl wd.heap.size 5 i0 (.int .u8 0) 1 1 Tryd.underlying23 hi hz0 hz1 hz2 rfl (by decide) _ _ _ rfl (h10.alloc _) ⟨wr.heap.size, 0, none⟩ 1 1 ([((s[m]'hlt).toNat : Int)].map (Value.int .u8)) rfl rfl (cells_new wr _ _) (ints_one _) (by unfold maxLen; omega) (by omega) (by simp; omega) ?_; intro v4 w4 hown4 hg4 hnn; clear hnn))
                      go_roundw
                      case rel => exact ⟨m + 1, by omega, by go_num, by unfold WordsI; rw [HN.out]; exact ⟨own_far (h9.alloc _) hg4 (fun g k1 k2 => own_apart h9 h10 (by decide) k1 k2), by rw [List.length_append, List.map_append]; exact hown4, (hB9.alloc (by omega) _).grown hg4 (by simp; omega) (fun j e => (h10.lt j e).1)⟩⟩
                      case measure => simp [intOf]; omega
                    | true =>
                      have hnext := HNX.out hle
                      rw [if_neg (by rw [HG.out, hb]; simp)] at hnext
                      simp only at hnext
                      have HN := Lib.hid hnext
                      clear hnext
                      by_cases hc0 : cur = []
                      · subst hc0
                        go_wp2_with (go_at_call 6; refine (blank1_any _ _).mono ?_; rintro e w' ⟨rfl, rfl⟩)
                        go_roundw
                        case rel => exact ⟨m + 1, by omega, by go_num, by unfold WordsI; rw [HN.out]; exact ⟨h9, ⟨rfl, .inl ⟨rfl, rfl⟩⟩, hB9⟩⟩
                        case measure => simp [intOf]; omega
                      · have hcp : 0 < cur.length := List.length_pos_iff.2 hc0
                        rw [if_neg hc0] at HN
                        have hcv := str_own (P := Tryd.prog) Tryd.underlying23 Tryd.underlying5 Tryd.underlying9 h10
                        go_wp2_with (first
                    | (go_at_call 6; refine (blank1_any _ _).mono ?_; rintro e w' ⟨rfl, rfl⟩)
                          | (at_builtin; refine wpList_append_own _ rfl _ _ 26 rfl wd.heap.size 9 iS (.string ⟨#[]⟩) 1 16 Tryd.underlying26 hiS hzS0 hzS1 hzS2 rfl (by decide) u9 _ _ rfl (h9.alloc _) ⟨wr.heap.size, 0, none⟩ 1 1 [txt cur] rfl rfl (cells_new wr _ _) (by simp [txt, Value.oneCell']) (by unfold maxLen; omega) (by omega) (by simp; omega) ?_; intro v4 w4 hown4 hg4 hnn; clear hnn))
                        go_roundw
                        case rel => exact ⟨m + 1, by omega, by go_num, by unfold WordsI; rw [HN.out]; exact ⟨by rw [List.length_append, List.map_append]; exact hown4, ⟨rfl, .inl ⟨rfl, rfl⟩⟩, (hB9.alloc (by omega) _).grown hg4 (by simp; omega) (fun j e => (h9.lt j e).1)⟩⟩
                        case measure => simp [intOf]; omega
                  · have hnext := HNX.out hle
                    rw [if_neg (fun h => hlt h.1)] at hnext
                    simp only at hnext
                    have hms : m = s.size := by omega
                    have HMS := Lib.hid hms
                    clear hms
                    have HN := Lib.hid hnext
                    clear hnext
                    by_cases hc0 : cur = []
                    · subst hc0
                      go_wp2
                      go_roundw
                      case rel => exact ⟨m + 1, by omega, by go_num, by unfold WordsI; rw [HN.out]; exact ⟨h9, ⟨rfl, .inl ⟨rfl, rfl⟩⟩, hB9⟩⟩
                      case measure => simp [intOf]; omega
                    · have hcp : 0 < cur.length := List.length_pos_iff.2 hc0
                      rw [if_neg hc0] at HN
                      have hcv := str_own (P := Tryd.prog) Tryd.underlying23 Tryd.underlying5 Tryd.underlying9 h10
                      go_wp2_with (first
                        | (at_builtin; refine wpList_append_own _ rfl _ _ 26 rfl wd.heap.size 9 iS (.string ⟨#[]⟩) 1 16 Tryd.underlying26 hiS hzS0 hzS1 hzS2 rfl (by decide) u9 _ _ rfl (h9.alloc _) ⟨wr.heap.size, 0, none⟩ 1 1 [txt cur] rfl rfl (cells_new wr _ _) (by simp [txt, Value.oneCell']) (by unfold maxLen; omega) (by omega) (by simp; omega) ?_; intro v4 w4 hown4 hg4 hnn; clear hnn))
                      go_roundw
                      case rel => exact ⟨m + 1, by omega, by go_num, by unfold WordsI; rw [HN.out]; exact ⟨by rw [List.length_append, List.map_append]; exact hown4, ⟨rfl, .inl ⟨rfl, rfl⟩⟩, (hB9.alloc (by omega) _).grown hg4 (by simp; omega) (fun j e => (h9.lt j e).1)⟩⟩
                      case measure => simp [intOf]; omega
                · obtain rfl : m = s.size + 1 := by omega
                  have hws : ws = Wx.words (bs s) := by
                    have := HST.out
                    unfold stE at this
                    rw [if_neg (by rw [HL.out]; omega)] at this
                    exact (congrArg Prod.fst this).symm
                  have hfe := Wx.fields_eq s
                  rw [← hws] at hfe
                  obtain ⟨G, hG⟩ : ∃ G, ws.map strOfNums = G := ⟨_, rfl⟩
                  rw [hG] at hfe
                  have hmap : ws.map txt = G.map Value.string := by rw [← hG, List.map_map]; rfl
                  have hlen : ws.length = G.length := by rw [← hG, List.length_map]
                  rw [hmap, hlen] at h9
                  rw [hlen] at hl1
                  have hwc : ∀ W, Calls Tryd.prog 8 #[.string s] W (WordsPost G W) := fun W => by
                    have := Words_any s W (by omega)
                    rw [hfe] at this
                    exact this
                  have HW := Lib.hid hwc
                  clear hws hfe hG hmap hlen hwc HST HNX
                  obtain ⟨A9, c9, rfl, hr9⟩ := own_rds h9
                  have tq2 : (((G.length : Nat) : Int) != ((G.length : Nat) : Int)) = false := by simp
                  go_wp2_with (go_at_call 8; refine (HW.out _).mono ?_; rintro e we ⟨Ag, rfl, hog, hbg⟩)
                  have hr9e := hr9.below hbg
                  obtain ⟨Ag', cg', hge, hrg⟩ := own_rds hog
                  obtain ⟨rfl, rfl⟩ : some ⟨Ag, 0, none⟩ = Ag' ∧ G.length = cg' := by injection hge with h1 _ h2; exact ⟨h1, h2⟩
                  have hBe : Below w.heap.size w we := (hBd.trans (hB9.mono hBd.size)).trans (hbg.mono (Nat.le_trans hBd.size hB9.size))
                  clear hge hog h9 h10 hr9 hbg hrd10 hB9
                  go_loopw [122] (fun i wr => ∃ k : Nat, k ≤ G.length ∧ i = .int .i64 k ∧ ∃ n, wr = we.drewN n) (fun i _ => G.length - (intOf i).toNat)
                  case atStart => exact ⟨0, by omega, rfl, 0, rfl⟩
                  case round =>
                    obtain ⟨k, hk, rfl, n, rfl⟩ := hrel
                    by_cases hlt : k < G.length
                    · obtain ⟨b9, o9, rfl, hb9, hc9⟩ := hr9e.pos (by omega)
                      obtain ⟨bg, og, hgg, hbg, hcg⟩ := hrg.pos (by omega)
                      injection hgg with hgg
                      injection hgg with e1 e2 _
                      subst e1
                      subst e2
                      have c9 := hc9 k _ (List.getElem?_eq_getElem hlt)
                      have cg := hcg k _ (List.getElem?_eq_getElem hlt)
                      obtain ⟨x, hx⟩ : ∃ x, G[k] = x := ⟨_, rfl⟩
                      rw [hx] at c9 cg
                      rw [Nat.zero_add] at cg
                      have tx : (x.toList != x.toList) = false := by simp
                      clear hc9 hcg hx
                      go_wp2
                      go_quiet (fail)
                      go_wp2
                      go_roundw
                      case rel => exact ⟨k + 1, by omega, by go_num, _, rfl⟩
                      case measure => simp [intOf]; omega
                    · obtain rfl : k = G.length := by omega
                      go_wp2
                      go_ret
                      exact ⟨rfl, below_drewN hBe _⟩

set_option maxHeartbeats 400000 in
theorem words_long (s : ByteArray) (w : World) (hs : s.size ≤ maxLen) (hl : 500 < s.size) : Calls Tryd.prog 3 #[.string s] w fun e w' => e = .returned (.bool true) ∧ Below w.heap.size w w' := by
  unfold maxLen at hs
  go_enter Tryd.func3, Tryd.ntmps3
  go_wp2_with (go_at_call 4; refine (head1_any _).mono ?_; rintro e w1 ⟨rfl, hb1⟩)
  go_ret
  exact ⟨rfl, hb1⟩

theorem words_law (s : ByteArray) (w : World) (hs : s.size ≤ maxLen) : Calls Tryd.prog 3 #[.string s] w fun e w' => e = .returned (.bool true) ∧ Below w.heap.size w w' := by
  by_cases hl : s.size ≤ 500
  · exact words_short s w hl
  · exact words_long s w hs (by omega)

end Go.Proofs.YtfjbelkpblgfiaaDoor
