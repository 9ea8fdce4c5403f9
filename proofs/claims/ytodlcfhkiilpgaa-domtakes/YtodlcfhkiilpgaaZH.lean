/- The contract of Move. The contract of Move. A tree's calls, held against what the law keeps. What the laws of layer 8 keep beside a tree, in memory; whether a node is beneath another one. A node more in what the laws of layer 8 keep. A node taken out of its place, in what the laws of layer 8 keep. -/
import Derived.Test.YtodlcfhkiilpgaaZC
import Derived.Test.YtodlcfhkiilpgaaZD
import Derived.Test.YtodlcfhkiilpgaaZG
import Derived.Test.YtodlcfhkiilpgaaZB
namespace Go.Proofs.Ytodlcfhkiilpgaa
open Go.RowKit Go.Shelf Go.Lib
attribute [local go_sem] Oper.semAt_some

theorem putP_len (ns : List Nd) (up n before : Int) (v1 v2 : Value) : (putP ns up n before v1 v2).length = ns.length := by
  unfold putP
  split
  · rw [setU_len, setK_len, outP_len]
  · rfl
/-- a Put gives each node one kid more at most -/
theorem putP_kids {ns : List Nd} {up n before : Int} {v1 v2 : Value} {m : Nat} (h : ∀ x ∈ ns, x.kids.length ≤ m) : ∀ x ∈ putP ns up n before v1 v2, x.kids.length ≤ m + 1 := by
  have hout : ∀ (j : Nat) (x : Nd), (outP ns n v1)[j]? = some x → x.kids.length ≤ m := by
    intro j x hx
    have hj : j < ns.length := by rw [← outP_len ns n v1]; exact (List.getElem?_eq_some_iff.1 hx).1
    obtain ⟨y', h1, h2⟩ := out_kids (n := n) (v := v1) (List.getElem?_eq_getElem hj)
    rw [h1] at hx
    cases hx
    have hm := h ns[j] (List.getElem_mem hj)
    rcases h2 with h2 | ⟨k, hk, h2⟩
    · rw [h2]; exact hm
    · rw [h2]
      have := List.length_eraseIdx_le (l := ns[j].kids) (i := k)
      omega
  intro x hx
  unfold putP at hx
  split at hx
  · obtain ⟨j, hj⟩ := List.mem_iff_getElem?.1 hx
    have hjl : j < (outP ns n v1).length := by
      have := (List.getElem?_eq_some_iff.1 hj).1
      rw [setU_len, setK_len] at this
      exact this
    obtain ⟨y1, a1, a2⟩ := setK_get (i := up.toNat) (v := v2) (ks := (kdN (outP ns n v1) up).take (plcN (outP ns n v1) up before).toNat ++ n :: (kdN (outP ns n v1) up).drop (plcN (outP ns n v1) up before).toNat) (List.getElem?_eq_getElem hjl)
    obtain ⟨y2, b1, b2, _, _⟩ := setU_get (i := n.toNat) (u := up) a1
    rw [b1] at hj
    cases hj
    rw [b2, a2]
    split
    · have hk : (kdN (outP ns n v1) up).length ≤ m := by
        unfold kdN
        cases hq : inN (outP ns n v1) up with
        | false => rw [atN_none hq]; exact Nat.zero_le _
        | true =>
          obtain ⟨i, z, e, hi⟩ := inN_at hq
          rw [e, atN_some hi]
          exact hout i z hi
      simp only [List.length_append, List.length_cons, List.length_take, List.length_drop]
      omega
    · have := hout j _ (List.getElem?_eq_getElem hjl)
      omega
  · have := h x hx
    omega
/-- what Move leaves, and what it answers: one kid behind the other is put -/
inductive MvR (up : Int) : List Int → List Nd → List Nd → Int → Prop
  | nil {ns} : MvR up [] ns ns 0
  | bad {n ks ns} (v1 v2 : Value) : putE ns up n (-1) ≠ 0 → MvR up (n :: ks) ns (putP ns up n (-1) v1 v2) (putE ns up n (-1))
  | go {n ks ns ns' z} (v1 v2 : Value) : putE ns up n (-1) = 0 → MvR up ks (putP ns up n (-1) v1 v2) ns' z → MvR up (n :: ks) ns ns' z
end Go.Proofs.Ytodlcfhkiilpgaa
namespace Go.Proofs.Ytodlcfhkiilpgaa
open Go.RowKit Go.Shelf Go.Lib
attribute [local go_sem] Oper.semAt_some

section
variable {base D : Nat} {v : Value} {qk : Bool} {ns : List Nd}
def MovePost (base D : Nat) (v : Value) (qk : Bool) (ns : List Nd) (a b : Int) (W : World) (e : Ending) (W' : World) : Prop :=
  ∃ ns' z, ((inN ns a = true ∧ inN ns b = true ∧ a ≠ b ∧ MvR b (kdN ns a) ns ns' z) ∨ ((inN ns a = false ∨ inN ns b = false ∨ a = b) ∧ ns' = ns ∧ z = 1)) ∧ e = .returned (.int .i64 z) ∧ Adds base D v qk ns ns' W W'
set_option maxRecDepth 100000 in
set_option maxHeartbeats 4000000 in
theorem move_any (a b : Int) (W : World) (h : DocM base D v qk ns W) (hl : ns.length ≤ 1000000) (hb : base ≤ W.heap.size) (m : Nat) (hm : ∀ x ∈ ns, x.kids.length ≤ m) (hmm : m + (kdN ns a).length < 1000000) :
    Calls Try.prog 16 #[.pointer (some ⟨D, 0, none⟩), .int .i64 a, .int .i64 b] W (MovePost base D v qk ns a b W) := by
  have KA := Lib.hid (has_any a W h)
  have KB := Lib.hid (has_any b W h)
  have HRF := Lib.hid (Trnd.refl h).adds
  cases ha : inN ns a with
  | false =>
    rw [ha] at KA
    have HP : Hid (MovePost base D v qk ns a b W (.returned (.int .i64 1)) W) := Lib.hid ⟨ns, 1, .inr ⟨.inl ha, rfl, rfl⟩, rfl, HRF.out⟩
    clear h ha KB
    go_enter Try.func16, Try.ntmps16
    go_wp2_with fail
    refine KA.out.mono ?_
    rintro e w1 ⟨rfl, rfl⟩
    go_wp2
    go_ret
    exact HP.out
  | true =>
    cases hbn : inN ns b with
    | false =>
      rw [ha] at KA
      rw [hbn] at KB
      have HP : Hid (MovePost base D v qk ns a b W (.returned (.int .i64 1)) W) := Lib.hid ⟨ns, 1, .inr ⟨.inr (.inl hbn), rfl, rfl⟩, rfl, HRF.out⟩
      clear h ha hbn
      go_enter Try.func16, Try.ntmps16
      go_wp2_with fail
      refine KA.out.mono ?_
      rintro e w1 ⟨rfl, rfl⟩
      go_wp2_with fail
      refine KB.out.mono ?_
      rintro e w1 ⟨rfl, rfl⟩
      go_wp2
      go_ret
      exact HP.out
    | true =>
      by_cases hab : a = b
      · rw [ha] at KA
        rw [hbn] at KB
        have HP : Hid (MovePost base D v qk ns a b W (.returned (.int .i64 1)) W) := Lib.hid ⟨ns, 1, .inr ⟨.inr (.inr hab), rfl, rfl⟩, rfl, HRF.out⟩
        have d1 : (a == b) = true := by rw [beq_iff_eq]; exact hab
        clear h ha hbn hab
        go_enter Try.func16, Try.ntmps16
        go_wp2_with fail
        refine KA.out.mono ?_
        rintro e w1 ⟨rfl, rfl⟩
        go_wp2_with fail
        refine KB.out.mono ?_
        rintro e w1 ⟨rfl, rfl⟩
        go_wp2
        go_ret
        exact HP.out
      · rw [ha] at KA
        rw [hbn] at KB
        have d1 : (a == b) = false := by rw [beq_eq_false_iff_ne]; exact hab
        have KK := Lib.hid (Kids_any a W h (by omega))
        have HD := Lib.hid h
        have HA := Lib.hid ha
        have HBn := Lib.hid hbn
        have HNE := Lib.hid hab
        clear h ha hbn HRF hab
        go_enter Try.func16, Try.ntmps16
        go_wp2_with fail
        refine KA.out.mono ?_
        rintro e w1 ⟨rfl, rfl⟩
        go_wp2_with fail
        refine KB.out.mono ?_
        rintro e w1 ⟨rfl, rfl⟩
        go_wp2_with fail
        refine KK.out.mono ?_
        rintro e w2 ⟨vk, rfl, ho, hb2⟩
        obtain ⟨K, hK⟩ : ∃ K, kdN ns a = K := ⟨_, rfl⟩
        rw [hK] at ho hmm
        obtain ⟨Ak, ck, e7⟩ := own_slice ho
        subst e7
        have HO := Lib.hid ho
        have HB2 := Lib.hid hb2
        have HK := Lib.hid hK
        have HM := Lib.hid hm
        have H2 := Lib.hid (HD.out.below hb2)
        clear ho hb2 hK hm KA KB KK
        go_wp2
        go_loopw [29] (fun iv wr => ∃ (i : Nat) (ns1 : List Nd), iv = .int .i64 i ∧ i ≤ K.length ∧ Hid (∀ ns' z, MvR b (K.drop i) ns1 ns' z → MvR b K ns ns' z) ∧ Hid (Trnd base D v qk ns ns1 w2 wr) ∧ Hid (ns1.length = ns.length) ∧ Hid (∀ x ∈ ns1, x.kids.length ≤ m + i)) (fun iv _ => K.length - (intOf iv).toNat)
        case atStart => exact ⟨0, ns, rfl, Nat.zero_le _, Lib.hid (fun _ _ h => by simpa using h), Lib.hid (Trnd.refl H2.out), Lib.hid rfl, Lib.hid (by simpa using HM.out)⟩
        case round =>
          obtain ⟨i, ns1, rfl, hi, HMV, HT, HL1, HKD⟩ := hrel
          have hor := HT.out.2.1.own HO.out (fun k e hk => by
            have h1 := (HD.out.in_ k hk).2
            have h2 := (HO.out.lt k e).1
            omega)
          have wrap : ∀ ns' z (W' : World), Trnd base D v qk ns ns' w2 W' → MvR b K ns ns' z → MovePost base D v qk ns a b w1 (.returned (.int .i64 z)) W' := by
            intro ns' z W' ht hmv
            refine ⟨ns', z, .inl ⟨HA.out, HBn.out, HNE.out, by rw [HK.out]; exact hmv⟩, rfl, v, ht.1, (Frm.below HB2.out).trans ht.2.1, fun k hk => ?_⟩
            rcases ht.2.2 k hk with h | h
            · exact .inl h
            · exact .inr (Nat.le_trans HB2.out.size h)
          have HW := Lib.hid wrap
          clear wrap
          by_cases hlt : i < K.length
          · obtain ⟨k, hk⟩ : ∃ k, K[i]? = some k := ⟨_, List.getElem?_eq_getElem hlt⟩
            have hdr : K.drop i = k :: K.drop (i + 1) := by
              rw [List.drop_eq_getElem_cons hlt]
              rw [List.getElem?_eq_getElem hlt] at hk
              injection hk with hk
              rw [hk]
            obtain ⟨g, cap, e, hc⟩ : ∃ g cap, Value.slice Ak K.length ck = .slice (some ⟨g, 0, none⟩) K.length cap ∧ wr.cell? ⟨g, i, none⟩ = some (.int .i64 k) := by
              rcases hor.2 with ⟨h1, h0⟩ | ⟨g, cap, cur, e, _⟩
              · omega
              · refine ⟨g, cap, e, ?_⟩
                rw [e] at hor
                have := hor.cellAt i (by omega)
                rw [List.getElem?_map, hk] at this
                simpa using this
            cases e
            have d2 : decide ((i : Int) < (K.length : Int)) = true := decide_eq_true (by omega)
            have hl1 := HL1.out
            have KP := put_any b k (-1) wr HT.out.1 (by omega) (fun x hx => by have := HKD.out x hx; omega)
            obtain ⟨z, hz⟩ : ∃ z, putE ns1 b k (-1) = z := ⟨_, rfl⟩
            unfold PutPost at KP
            rw [hz] at KP
            replace KP := Lib.hid KP
            have HZ := Lib.hid hz
            have HDR := Lib.hid hdr
            clear hdr hk hor hz
            by_cases hz0 : z = 0
            · have d3 : (z != 0) = false := by simp [hz0]
              go_wp2_with fail
              refine KP.out.mono ?_
              rintro e w4 ⟨v1, v2, rfl, ht⟩
              have HT4 := Lib.hid ht
              clear ht
              go_wp2
              refine ⟨⟨i + 1, putP ns1 b k (-1) v1 v2, by go_num, by omega, Lib.hid (fun ns' z' hm' => HMV.out ns' z' (by rw [HDR.out]; exact MvR.go v1 v2 (HZ.out.trans hz0) hm')), Lib.hid (HT.out.trans HT4.out), Lib.hid (by rw [putP_len]; exact HL1.out), Lib.hid (by have := putP_kids (up := b) (n := k) (before := -1) (v1 := v1) (v2 := v2) HKD.out; simpa [Nat.add_assoc] using this)⟩, by simp [intOf]; omega⟩
            · have d3 : (z != 0) = true := by simpa using hz0
              go_wp2_with fail
              refine KP.out.mono ?_
              rintro e w4 ⟨v1, v2, rfl, ht⟩
              have HT4 := Lib.hid ht
              clear ht
              go_wp2
              go_ret
              exact HW.out _ _ _ (HT.out.trans HT4.out) (HMV.out _ _ (by rw [HDR.out, ← HZ.out]; exact MvR.bad v1 v2 (by rw [HZ.out]; exact hz0)))
          · have d2 : decide ((i : Int) < (K.length : Int)) = false := decide_eq_false (by omega)
            clear hor
            go_wp2
            go_ret
            refine HW.out _ _ _ HT.out (HMV.out _ _ ?_)
            rw [List.drop_eq_nil_of_le (by omega)]
            exact MvR.nil
end
end Go.Proofs.Ytodlcfhkiilpgaa
namespace Go.Proofs.Ytodlcfhkiilpgaa
open Go.RowKit Go.Shelf Go.Lib

def Nd.pl (x : Nd) : Pl := ⟨x.kind, x.name, x.data, x.up, x.kids, x.inner⟩
theorem inN_pl (ns : List Nd) (n : Int) : inN ns n = inQ (ns.map Nd.pl) n := by unfold inN inQ; rw [List.length_map]
theorem atN_pl {β : Type} (ns : List Nd) (n : Int) {f : Nd → β} {g : Pl → β} {d : β} (h : ∀ x, f x = g x.pl) : atN ns n f d = pAt (ns.map Nd.pl) n g d := by
  cases hn : inN ns n with
  | false =>
    rw [atN_none hn]
    unfold inN at hn
    simp only [Bool.and_eq_false_iff, decide_eq_false_iff_not] at hn
    rcases hn with h0 | h0
    · rw [pAt_neg (by omega)]
    · rw [pAt_ge (by rw [List.length_map]; omega)]
  | true =>
    obtain ⟨i, x, rfl, hx⟩ := inN_at hn
    rw [atN_some hx, pAt_some (x := x.pl) (by rw [List.getElem?_map, hx]; rfl), h]
theorem kind_pl (ns : List Nd) (n : Int) : atN ns n Nd.kind 0 = pAt (ns.map Nd.pl) n Pl.kind 0 := atN_pl ns n (fun _ => rfl)
theorem up_pl (ns : List Nd) (n : Int) : atN ns n Nd.up (-1) = pAt (ns.map Nd.pl) n Pl.up (-1) := atN_pl ns n (fun _ => rfl)
theorem kdN_pl (ns : List Nd) (n : Int) : kdN ns n = pAt (ns.map Nd.pl) n Pl.kids [] := atN_pl ns n (fun _ => rfl)
theorem plcN_pl (ns : List Nd) (up before : Int) : plcN ns up before = plQ (ns.map Nd.pl) up before := by
  unfold plcN plQ
  rw [kdN_pl]
theorem plcB_pl (ns : List Nd) (up before : Int) : plcB ns up before = decide (0 ≤ plQ (ns.map Nd.pl) up before) := by
  unfold plcB plQ
  rw [kdN_pl]
  split
  · rw [decide_eq_true (by omega)]
  · rfl
theorem setK_pl (ns : List Nd) (i : Nat) (v : Value) (ks : List Int) : (setK ns i v ks).map Nd.pl = md (ns.map Nd.pl) i (fun y => { y with kids := ks }) := by
  unfold setK md
  rw [List.getElem?_map]
  cases ns[i]? with
  | none => rfl
  | some x => simp only [Option.map_some, List.map_set]; rfl
theorem setU_pl (ns : List Nd) (i : Nat) (u : Int) : (setU ns i u).map Nd.pl = md (ns.map Nd.pl) i (fun y => { y with up := u }) := by
  unfold setU md
  rw [List.getElem?_map]
  cases ns[i]? with
  | none => rfl
  | some x => simp only [Option.map_some, List.map_set]; rfl
theorem setD_pl (ns : List Nd) (i : Nat) (s : ByteArray) : (setD ns i s).map Nd.pl = md (ns.map Nd.pl) i (fun y => { y with data := y.data ++ s }) := by
  unfold setD md
  rw [List.getElem?_map]
  cases ns[i]? with
  | none => rfl
  | some x => simp only [Option.map_some, List.map_set]; rfl
theorem md_id {ps : List Pl} {i : Nat} {x : Pl} {f : Pl → Pl} (h : ps[i]? = some x) (hf : f x = x) : md ps i f = ps := by
  unfold md
  rw [h]
  obtain ⟨hl, e⟩ := List.getElem?_eq_some_iff.1 h
  show ps.set i (f x) = ps
  rw [hf, ← e, List.set_getElem_self]
theorem md_congr {ps : List Pl} {i : Nat} {f g : Pl → Pl} (h : ∀ x, ps[i]? = some x → f x = g x) : md ps i f = md ps i g := by
  unfold md
  cases hx : ps[i]? with
  | none => rfl
  | some x => show ps.set i (f x) = ps.set i (g x); rw [h x hx]
theorem erase_idx (n : Int) : ∀ (l : List Int) (i k : Nat), Lib.idxFrom l n i = ((i + k : Nat) : Int) → l.eraseIdx k = l.erase n
  | [], _, _, _ => by simp
  | z :: zs, i, k, h => by
    unfold Lib.idxFrom at h
    by_cases e : z = n
    · rw [if_pos e] at h
      have : k = 0 := by omega
      subst this
      rw [e]
      simp
    · rw [if_neg e] at h
      cases k with
      | zero =>
        rcases idxFrom_cases n zs (i + 1) with h1 | ⟨q, h1, _⟩
        · omega
        · omega
      | succ k =>
        rw [List.eraseIdx_cons_succ, erase_idx n zs (i + 1) k (by rw [h]; congr 1; omega), List.erase_cons_tail (by simpa using e)]
theorem idx_mem {l : List Int} {n : Int} (h : n ∈ l) : ∃ k : Nat, Lib.idxOf l n = (k : Int) ∧ l[k]? = some n := by
  have h1 : (0 : Int) ≤ Lib.idxOf l n := by rw [Lib.idxOf_nonneg_iff]; simpa using h
  rcases idx_cases l n with h2 | h2
  · omega
  · exact h2
theorem outP_pl {ns : List Nd} (h : Tr (ns.map Nd.pl)) {n : Int} (v : Value) (hn : inN ns n = true) : (outP ns n v).map Nd.pl = outQ (ns.map Nd.pl) n := by
  obtain ⟨i, x, rfl, hx⟩ := inN_at hn
  have hx' : (ns.map Nd.pl)[i]? = some x.pl := by rw [List.getElem?_map, hx]; rfl
  have hup : atN ns (i : Int) Nd.up (-1) = x.up := atN_some hx
  have hup' : pAt (ns.map Nd.pl) (i : Int) Pl.up (-1) = x.up := pAt_some hx'
  unfold outP outQ outI
  rw [hn, if_pos rfl, hup, hup']
  rcases h.up i _ hx' with e | ⟨p, y, e, hy, hm⟩
  · have e : x.up = -1 := e
    rw [e, if_pos (show (-1 : Int) < 0 by omega)]
    have hk : kdN ns (-1) = [] := atN_none (by rfl)
    rw [hk, if_neg (show ¬ (0 : Int) ≤ Lib.idxOf [] (i : Int) from fun h => by have : Lib.idxOf [] (i : Int) = -1 := rfl; omega)]
    rw [setU_pl, Int.toNat_natCast]
    exact md_id hx' (by unfold Nd.pl; rw [e])
  · have e : x.up = (p : Int) := e
    rw [e, if_neg (show ¬ (p : Int) < 0 by omega), Int.toNat_natCast, Int.toNat_natCast]
    have hk : kdN ns (p : Int) = y.kids := by rw [kdN_pl]; exact pAt_some hy
    rw [hk]
    obtain ⟨k, h1, _⟩ := idx_mem hm
    rw [h1, if_pos (by omega), Int.toNat_natCast, setU_pl, setK_pl]
    congr 1
    refine md_congr fun z hz => ?_
    rw [hy] at hz
    cases hz
    rw [erase_idx (i : Int) y.kids 0 k (by rw [Nat.zero_add]; exact h1)]
theorem above_pl {ns : List Nd} (h : Tr (ns.map Nd.pl)) (hl : ns.length ≤ 1000000) {m : Int} (h0 : 0 ≤ m) (h1 : m < ns.length) : aboveN ns m = abv (ns.map Nd.pl) m := by
  have hw : wrap64 (m - 1) = m - 1 := by unfold wrap64; omega
  have hin : innN ns (m - 1) = pAt (ns.map Nd.pl) (m - 1) Pl.inner (-1) := by
    unfold innN
    cases hn : inN ns (m - 1) with
    | false =>
      rw [atN_none hn]
      unfold inN at hn
      simp only [Bool.and_eq_false_iff, decide_eq_false_iff_not] at hn
      rw [pAt_neg (by omega)]
    | true =>
      obtain ⟨i, x, e, hx⟩ := inN_at hn
      have hx' : (ns.map Nd.pl)[i]? = some x.pl := by rw [List.getElem?_map, hx]; rfl
      rw [e, atN_some hx, pAt_some hx']
      rcases h.inn i _ hx' with e | ⟨e, _⟩
      · have e : x.inner = -1 := e
        simp only [Nd.pl, e]; decide
      · have e : x.inner = (i : Int) + 1 := e
        rw [if_neg (by omega)]
        rfl
  unfold abv
  rw [if_neg (show ¬ m < 0 by omega)]
  unfold aboveN
  rw [hw, hin, up_pl]
theorem climb_pl {ns : List Nd} (h : Tr (ns.map Nd.pl)) (hl : ns.length ≤ 1000000) {top : Int} (ht : 0 ≤ top) : ∀ (f : Nat) (m : Int) (l : List Int), Path (abv (ns.map Nd.pl)) m (m :: l) → m < ns.length → m ≠ top → l.length ≤ f → (climb ns top f m == top) = decide (top ∈ l)
  | 0, m, l, hp, hm, hne, hf => by
    have : l = [] := List.eq_nil_of_length_eq_zero (by omega)
    subst this
    unfold climb
    simp [hne]
  | f + 1, m, l, hp, hm, hne, hf => by
    cases hp with
    | cons h0 hp =>
      have ha := above_pl h hl h0 hm
      unfold climb
      rw [ha]
      have hin := h.abv_in (n := m)
      rw [List.length_map] at hin
      obtain ⟨a, hA⟩ : ∃ a, abv (ns.map Nd.pl) m = a := ⟨_, rfl⟩
      rw [hA] at hp hin ⊢
      cases hp with
      | nil =>
        rw [if_pos (.inr rfl)]
        have : ¬ (-1 : Int) = top := by omega
        simp [this]
      | @cons _ l' h2 hp =>
        by_cases e : a = top
        · rw [if_pos (.inl e)]
          simp [e]
        · rw [if_neg (by rintro (h | h); exact e h; omega)]
          rw [climb_pl h hl ht f a l' (.cons h2 hp) (by omega) e (by simp at hf; omega)]
          have : (top ∈ a :: l') ↔ top ∈ l' := by
            rw [List.mem_cons]
            exact ⟨fun h => h.resolve_left (fun h => e h.symm), .inr⟩
          simp only [this]
theorem Path.from_ {f : Int → Int} {n : Int} {l : List Int} (h : Path f n l) : ∀ m ∈ l, m ≠ n → ∃ z ∈ l, f z = m := by
  induction h with
  | nil => intro m hm; cases hm
  | @cons n l h0 hp ih =>
    intro m hm hne
    rcases List.mem_cons.1 hm with e | hm
    · exact absurd e hne
    · by_cases e : m = f n
      · exact ⟨n, List.mem_cons_self .., e.symm⟩
      · obtain ⟨z, hz, e⟩ := ih m hm e
        exact ⟨z, List.mem_cons_of_mem _ hz, e⟩
theorem with_pl {ns : List Nd} (h : Tr (ns.map Nd.pl)) (hl : ns.length ≤ 1000000) {p i : Nat} (hp : p < ns.length) (hi : i < ns.length) : withN ns (p : Int) (i : Int) = ben (ns.map Nd.pl) (i : Int) (p : Int) := by
  obtain ⟨l, hpl, hle, e⟩ := h.ben (n := (p : Int)) (a := (i : Int)) (by omega) (by rw [List.length_map]; omega)
  rw [e]
  rw [List.length_map] at hle
  unfold withN
  cases hpl with
  | @cons _ l h0 hp2 =>
    by_cases hpi : (p : Int) = (i : Int)
    · rw [if_pos hpi]
      simp [hpi]
    · rw [if_neg hpi]
      have hmem : ((i : Int) ∈ (p : Int) :: l) ↔ (i : Int) ∈ l := by
        rw [List.mem_cons]
        exact ⟨fun h => h.resolve_left (fun h => hpi h.symm), .inr⟩
      simp only [hmem]
      split
      · rename_i hno
        obtain ⟨hk0, hi0⟩ := hno
        symm
        rw [decide_eq_false_iff_not]
        intro hm
        obtain ⟨z, hz, ez⟩ := (Path.cons h0 hp2).from_ (i : Int) (List.mem_cons_of_mem _ hm) (fun e => hpi e.symm)
        obtain ⟨hz0, hz1⟩ := h.path_in (Path.cons h0 hp2) (by rw [List.length_map]; omega) z hz
        rw [List.length_map] at hz1
        obtain ⟨q, rfl⟩ : ∃ q : Nat, z = q := ⟨z.toNat, by omega⟩
        obtain ⟨x, hx⟩ : ∃ x, ns[q]? = some x := ⟨_, List.getElem?_eq_getElem (by omega)⟩
        have hx' : (ns.map Nd.pl)[q]? = some x.pl := by rw [List.getElem?_map, hx]; rfl
        unfold abv at ez
        rw [if_neg (by omega), pAt_some hx'] at ez
        by_cases hu : x.pl.up = -1
        · rw [if_neg (by omega)] at ez
          split at ez
          · rename_i hin
            rw [ez] at hin
            obtain ⟨y, hy⟩ : ∃ y, ns[i]? = some y := ⟨_, List.getElem?_eq_getElem hi⟩
            have hy' : (ns.map Nd.pl)[i]? = some y.pl := by rw [List.getElem?_map, hy]; rfl
            rw [pAt_some hy'] at hin
            have hin : y.inner = (q : Int) := hin
            unfold innN at hi0
            rw [atN_some hy, if_neg (by omega)] at hi0
            omega
          · omega
        · rw [if_pos hu] at ez
          rcases h.up q _ hx' with e2 | ⟨j, y, e2, hy, hm2⟩
          · exact hu e2
          · have hji : j = i := by omega
            subst hji
            rw [kdN_pl, pAt_some hy] at hk0
            rw [List.eq_nil_of_length_eq_zero hk0] at hm2
            cases hm2
      · exact climb_pl h hl (by omega) ns.length p l (.cons h0 hp2) (by omega) hpi (by simp at hle; omega)
theorem putB_pl {ns : List Nd} (h : Tr (ns.map Nd.pl)) (hl : ns.length ≤ 1000000) (up n before : Int) : putB ns up n before = !badQ (ns.map Nd.pl) up n before := by
  unfold putB badQ
  rw [inN_pl]
  cases hu : inQ (ns.map Nd.pl) up with
  | false =>
    have : hldB ns up = false := by
      unfold hldB
      rw [atN_none (by rw [inN_pl]; exact hu)]
      rfl
    rw [this]
    rfl
  | true =>
    cases hn : inQ (ns.map Nd.pl) n with
    | false => simp
    | true =>
      obtain ⟨p, y, rfl, hy⟩ := inQ_at hu
      obtain ⟨i, x, rfl, hx⟩ := inQ_at hn
      have hpl := (List.getElem?_eq_some_iff.1 hy).1
      have hil := (List.getElem?_eq_some_iff.1 hx).1
      rw [List.length_map] at hpl hil
      rw [with_pl h hl hpl hil]
      have hk := (h.kd p y hy).1
      have hh : hldB ns (p : Int) = !decide (2 < pAt (ns.map Nd.pl) (p : Int) Pl.kind 0) := by
        unfold hldB
        rw [kind_pl, pAt_some hy]
        by_cases h1 : y.kind = 1
        · rw [h1]; rfl
        · by_cases h2 : y.kind = 2
          · rw [h2]; rfl
          · have a1 : (y.kind == 1) = false := by simpa using h1
            have a2 : (y.kind == 2) = false := by simpa using h2
            rw [a1, a2, decide_eq_true (by omega)]; rfl
      rw [hh, kind_pl]
      cases decide (2 < pAt (ns.map Nd.pl) (p : Int) Pl.kind 0) <;> cases (pAt (ns.map Nd.pl) (i : Int) Pl.kind 0 == 1) <;> cases (before == (i : Int)) <;> cases (ben (ns.map Nd.pl) (i : Int) (p : Int)) <;> rfl
theorem putE_pl {ns : List Nd} (h : Tr (ns.map Nd.pl)) (hl : ns.length ≤ 1000000) (up n before : Int) : putE ns up n before = putEQ (ns.map Nd.pl) up n before := by
  unfold putE putEQ
  rw [putB_pl h hl, plcB_pl]
  cases badQ (ns.map Nd.pl) up n before with
  | true => rfl
  | false =>
    by_cases h0 : plQ (ns.map Nd.pl) up before < 0
    · rw [if_pos h0, decide_eq_false (by omega)]; rfl
    · rw [if_neg h0, decide_eq_true (by omega)]; rfl
theorem putP_pl {ns : List Nd} (h : Tr (ns.map Nd.pl)) (hl : ns.length ≤ 1000000) (up n before : Int) (v1 v2 : Value) : (putP ns up n before v1 v2).map Nd.pl = putQ (ns.map Nd.pl) up n before := by
  unfold putP putQ
  have he := putE_pl h hl up n before
  unfold putE at he
  rw [putB_pl h hl, plcB_pl] at he ⊢
  by_cases h0 : putEQ (ns.map Nd.pl) up n before = 0
  · obtain ⟨hb, hp⟩ := putEQ_ok h0
    rw [if_pos h0, hb, decide_eq_true hp, if_pos (by rfl)]
    obtain ⟨p, i, y, x, rfl, rfl, hy, hx, _⟩ := badQ_no hb
    have ho := outP_pl h v1 (n := (i : Int)) (by rw [inN_pl]; exact inQ_of hx)
    rw [setU_pl, setK_pl, plcN_pl, kdN_pl, ho, Int.toNat_natCast, Int.toNat_natCast]
    unfold attQ
    congr 1
    refine md_congr fun z hz => ?_
    rw [pAt_some hz]
    rfl
  · rw [if_neg h0, if_neg]
    intro e
    simp only [Bool.and_eq_true] at e
    rw [e.1, e.2] at he
    exact h0 he.symm
theorem say_pl {ns ns' : List Nd} {up before z : Int} {s : ByteArray} (h : Tr (ns.map Nd.pl)) (hl : ns.length < 1000000) (hs : SayR ns up s before ns' z) : (ns'.map Nd.pl, z) = sayQ (ns.map Nd.pl) up s before := by
  have hsi : sayN ns up before = sayI (ns.map Nd.pl) up before := by
    unfold sayN sayI
    rw [plcN_pl, kdN_pl]
    split
    · cases (pAt (ns.map Nd.pl) up Pl.kids [])[(plQ (ns.map Nd.pl) up before).toNat - 1]? with
      | none => rfl
      | some l =>
        show (if (atN ns l Nd.kind 0 == 3) = true then _ else _) = (if (pAt (ns.map Nd.pl) l Pl.kind 0 == 3) = true then _ else _)
        rw [kind_pl]
    · rfl
  unfold sayQ
  cases hs with
  | arg h0 =>
    rw [if_pos]
    rw [inN_pl] at h0
    exact h0
  | miss h1 h2 h3 =>
    rw [inN_pl] at h1
    rw [plcB_pl, decide_eq_false_iff_not] at h3
    rw [if_neg (by rintro (h | h); rw [h1] at h; cases h; exact h2 h), if_pos (by omega)]
  | grow l h1 h2 h3 h4 =>
    rw [inN_pl] at h1
    rw [plcB_pl, decide_eq_true_eq] at h3
    rw [if_neg (by rintro (h | h); rw [h1] at h; cases h; exact h2 h), if_neg (by omega), ← hsi, h4, setD_pl]
  | new A c v1 v2 h1 h2 h3 h4 =>
    rw [inN_pl] at h1
    rw [plcB_pl, decide_eq_true_eq] at h3
    rw [if_neg (by rintro (h | h); rw [h1] at h; cases h; exact h2 h), if_neg (by omega), ← hsi, h4]
    have em : (ns ++ [aloneNd (txN s) A c]).map Nd.pl = ns.map Nd.pl ++ [txQ s] := by rw [List.map_append]; rfl
    have ht : Tr ((ns ++ [aloneNd (txN s) A c]).map Nd.pl) := by
      rw [em]
      refine tr_push h (fun j x hx => ?_) (by simp)
      match j, hx with
      | 0, hx => simp at hx; subst hx; exact ⟨rfl, rfl, (show (1 : Int) ≤ 3 by omega), .inl rfl⟩
      | j + 1, hx => simp at hx
    have hlen : (ns ++ [aloneNd (txN s) A c]).length ≤ 1000000 := by simp; omega
    rw [putP_pl ht hlen, putE_pl ht hlen, em, List.length_map]
theorem mv_pl {up : Int} {K : List Int} {ns ns' : List Nd} {z : Int} (hm : MvR up K ns ns' z) : Tr (ns.map Nd.pl) → ns.length ≤ 1000000 → (ns'.map Nd.pl, z) = mvQ up K (ns.map Nd.pl) := by
  induction hm with
  | nil => intro _ _; rfl
  | @bad n ks ns v1 v2 h0 =>
    intro h hl
    unfold mvQ
    have he := putE_pl h hl up n (-1)
    rw [if_neg (by rw [← he]; exact h0), ← he]
    congr 1
    rw [putP_pl h hl]
    unfold putQ
    rw [if_neg (by rw [← he]; exact h0)]
  | @go n ks ns ns' z v1 v2 h0 _ ih =>
    intro h hl
    unfold mvQ
    have he := putE_pl h hl up n (-1)
    rw [if_pos (by rw [← he]; exact h0), ← putP_pl h hl up n (-1) v1 v2]
    exact ih (by rw [putP_pl h hl]; exact putQ_tr h _ _ _) (by rw [putP_len]; exact hl)
end Go.Proofs.Ytodlcfhkiilpgaa
namespace Go.Proofs.Ytodlcfhkiilpgaa
open Go.RowKit Go.Shelf Go.Lib
attribute [local go_sem] Oper.semAt_some

/-- a node, as the law keeps it, and where its kids lie -/
structure Ow where
  pl : Pl
  kv : Value
def Ow.cs (o : Ow) : List Value := [.int .i64 o.pl.kind, .string o.pl.name, .string o.pl.data, .int .i64 o.pl.up, o.kv, .int .i64 o.pl.inner]
def cellsO (os : List Ow) : List Value := os.flatMap Ow.cs
theorem cellsO_len (os : List Ow) : (cellsO os).length = os.length * 6 := by
  unfold cellsO
  induction os with
  | nil => rfl
  | cons x xs ih => rw [List.flatMap_cons, List.length_append, ih]; simp [Ow.cs]; omega
theorem cellsO_snoc (xs ys : List Ow) : cellsO (xs ++ ys) = cellsO xs ++ cellsO ys := by simp [cellsO]
theorem cellsO_get (os : List Ow) : ∀ (i : Nat) (x : Ow) (j : Nat), os[i]? = some x → j < 6 → (cellsO os)[i * 6 + j]? = x.cs[j]? := by
  induction os with
  | nil => intro i x j h; simp at h
  | cons y os ih =>
    intro i x j h hj
    have hc : cellsO (y :: os) = y.cs ++ cellsO os := rfl
    have hl : y.cs.length = 6 := rfl
    cases i with
    | zero =>
      simp at h
      subst h
      rw [hc, List.getElem?_append_left (by omega), Nat.zero_mul, Nat.zero_add]
    | succ i =>
      rw [hc, List.getElem?_append_right (by omega), hl, show (i + 1) * 6 + j - 6 = i * 6 + j by omega]
      exact ih i x j (by simpa using h) hj
theorem cellsO_set : ∀ (os : List Ow) (i j : Nat) (x x' : Ow) (u : Value), os[i]? = some x → j < 6 → x'.cs = x.cs.set j u → cellsO (os.set i x') = (cellsO os).set (i * 6 + j) u
  | [], i, j, x, x', u, h, _, _ => by simp at h
  | y :: os, 0, j, x, x', u, h, hj, hc => by
    simp at h
    subst h
    show x'.cs ++ cellsO os = (y.cs ++ cellsO os).set (0 * 6 + j) u
    have hl : y.cs.length = 6 := rfl
    rw [hc, Nat.zero_mul, Nat.zero_add, List.set_append_left _ _ (by omega)]
  | y :: os, i + 1, j, x, x', u, h, hj, hc => by
    show y.cs ++ cellsO (os.set i x') = (y.cs ++ cellsO os).set ((i + 1) * 6 + j) u
    have hl : y.cs.length = 6 := rfl
    rw [cellsO_set os i j x x' u (by simpa using h) hj hc, List.set_append_right _ _ (by omega), hl, show (i + 1) * 6 + j - 6 = i * 6 + j by omega]
/-- the law's own list in memory: a row of nodes, each node's kids in rows that are only read -/
structure OwM (base : Nat) (v : Value) (os : List Ow) (W : World) : Prop where
  row : W.ownsRow base 57 6 v os.length (cellsO os)
  kids : ∀ (i : Nat) (x : Ow), os[i]? = some x → W.ownsRow base 3 1 x.kv x.pl.kids.length (x.pl.kids.map (Value.int .i64))
def OB (v : Value) (os : List Ow) (k : Nat) : Prop := v.ownBlock = some k ∨ ∃ (i : Nat) (x : Ow), os[i]? = some x ∧ x.kv.ownBlock = some k
section
variable {base : Nat} {v : Value} {os : List Ow} {W W' : World}
theorem OwM.sl (h : OwM base v os W) : ∃ A cap, v = .slice A os.length cap ∧ os.length ≤ cap ∧ cap ≤ maxLen ∧ (0 < os.length → ∃ g, A = some ⟨g, 0, none⟩ ∧ base ≤ g ∧ g < W.heap.size) := by
  rcases h.row.2 with ⟨h1, h0⟩ | ⟨g, cap, cur, h1, hb, hg, hn, hm, _⟩
  · exact ⟨none, 0, by rw [h1, h0], by omega, Nat.zero_le _, fun hp => by omega⟩
  · exact ⟨_, cap, h1, hn, hm, fun _ => ⟨g, rfl, hb, (Array.getElem?_eq_some_iff.1 hg).1⟩⟩
theorem OwM.cell {g cap i j : Nat} {x : Ow} (h : OwM base (.slice (some ⟨g, 0, none⟩) os.length cap) os W) (hx : os[i]? = some x) (hj : j < 6) : W.cell? ⟨g, i * 6 + j, none⟩ = x.cs[j]? := by
  have hi := (List.getElem?_eq_some_iff.1 hx).1
  rw [h.row.cellAt (i * 6 + j) (by omega), cellsO_get os i x j hx hj]
theorem OwM.keep {S : Nat → Prop} (h : OwM base v os W) (hf : Frm S W W') (hS : ∀ k, OB v os k → ¬ S k) : OwM base v os W' :=
  ⟨hf.own h.row (fun k e => hS k (.inl e)), fun i x hx => hf.own (h.kids i x hx) (fun k e => hS k (.inr ⟨i, x, hx, e⟩))⟩
theorem OwM.below (h : OwM base v os W) (hb : Below W.heap.size W W') : OwM base v os W' := h.keep (S := fun _ => False) (Frm.below hb) (fun _ _ h => h)
theorem OwM.in_ (h : OwM base v os W) : ∀ k, OB v os k → base ≤ k ∧ k < W.heap.size := by
  rintro k (e | ⟨i, x, hx, e⟩)
  · exact h.row.lt k e
  · exact (h.kids i x hx).lt k e
theorem ow_len {ps : List Pl} (hp : os.map Ow.pl = ps) : os.length = ps.length := by rw [← hp, List.length_map]
theorem ow_get {ps : List Pl} (hp : os.map Ow.pl = ps) {i : Nat} {x : Pl} (hx : ps[i]? = some x) : ∃ o, os[i]? = some o ∧ o.pl = x := by
  rw [← hp, List.getElem?_map] at hx
  cases ho : os[i]? with
  | none => rw [ho] at hx; cases hx
  | some o => rw [ho] at hx; exact ⟨o, rfl, Option.some.inj hx⟩
/-- how far it is up -/
def hgtF (f : Int → Int) : Nat → Int → Nat
  | 0, _ => 0
  | k + 1, n => if n < 0 then 0 else hgtF f k (f n) + 1
theorem Path.hgt {f : Int → Int} {n : Int} {l : List Int} (h : Path f n l) : ∀ k, l.length ≤ k → hgtF f k n = l.length := by
  induction h with
  | nil => intro k _; cases k <;> simp [hgtF]
  | @cons n l h0 hp ih =>
    intro k hk
    cases k with
    | zero => simp at hk
    | succ k =>
      unfold hgtF
      rw [if_neg (by omega), ih k (by simpa using hk)]
      rfl
set_option maxHeartbeats 2000000 in
theorem beneath_any (a n : Int) (W : World) (h : OwM base v os W) (ht : Tr (os.map Ow.pl)) (hl : os.length ≤ 1000000) (h0 : -1 ≤ n) (hn : n < os.length) :
    Calls Try.prog 80 #[v, .int .i64 a, .int .i64 n] W fun e W' => e = .returned (.bool (ben (os.map Ow.pl) a n)) ∧ W' = W := by
  obtain ⟨A, cap, rfl, hle, hmx, hgv⟩ := h.sl
  obtain ⟨B, hB⟩ : ∃ B, ben (os.map Ow.pl) a n = B := ⟨_, rfl⟩
  obtain ⟨l, hpl, hll⟩ := ht.path (n := n) (by omega) (by rw [List.length_map]; omega)
  have hB2 : decide (a ∈ l) = B := by rw [← hB]; exact (hpl.bn _ hll).symm
  rw [hB]
  have H := Lib.hid h
  have HT := Lib.hid ht
  have HG := Lib.hid hgv
  unfold maxLen at hmx
  clear h ht hB hgv hll
  have HP := Lib.hid hpl
  have HB2 := Lib.hid hB2
  clear hpl hB2
  go_enter Try.func80, Try.ntmps80
  go_wp2
  go_loop [2] (fun nv => ∃ (m : Int) (l : List Int), nv = .int .i64 m ∧ -1 ≤ m ∧ m < os.length ∧ Hid (Path (abv (os.map Ow.pl)) m l) ∧ Hid (decide (a ∈ l) = B)) (fun nv => hgtF (abv (os.map Ow.pl)) os.length (RowKit.intOf nv))
  case atStart => exact ⟨n, l, rfl, h0, hn, HP, HB2⟩
  case round =>
    obtain ⟨m, l, rfl, hm0, hm1, HP, HB⟩ := hrel
    by_cases hneg : m < 0
    · have d0 : decide ((0 : Int) ≤ m) = false := decide_eq_false (by omega)
      have hb : B = false := by
        rw [← HB.out]
        have := HP.out
        cases this with
        | nil => simp
        | cons h _ => omega
      subst hb
      clear hneg hm0
      go_wp2
      go_ret
      exact ⟨rfl, rfl⟩
    · obtain ⟨i, rfl⟩ : ∃ i : Nat, m = i := ⟨m.toNat, by omega⟩
      obtain ⟨x, hx⟩ : ∃ x, os[i]? = some x := ⟨_, List.getElem?_eq_getElem (by omega)⟩
      have hx' : (os.map Ow.pl)[i]? = some x.pl := by rw [List.getElem?_map, hx]; rfl
      have d0 : decide ((0 : Int) ≤ (i : Int)) = true := decide_eq_true (by omega)
      obtain ⟨g, rfl, _, _⟩ := HG.out (by omega)
      have hil : i < os.length := by omega
      have c3 : W.cell? ⟨g, i * 6 + 3, none⟩ = some (.int .i64 x.pl.up) := H.out.cell hx (show 3 < 6 by omega)
      obtain ⟨l', hle, hpl', hb'⟩ : ∃ l', l = (i : Int) :: l' ∧ Path (abv (os.map Ow.pl)) (abv (os.map Ow.pl) i) l' ∧ True := by
        have := HP.out
        cases this with
        | cons h h2 => exact ⟨_, rfl, h2, trivial⟩
      have hlen : l.length ≤ os.length := by
        have := pigeon _ l HP.out.nodup (HT.out.path_in HP.out (by rw [List.length_map]; omega))
        rw [List.length_map] at this
        exact this
      have hh1 : hgtF (abv (os.map Ow.pl)) os.length (i : Int) = l.length := HP.out.hgt _ hlen
      have hh2 : hgtF (abv (os.map Ow.pl)) os.length (abv (os.map Ow.pl) i) = l'.length := hpl'.hgt _ (by rw [hle] at hlen; simp at hlen; omega)
      have HH : Hid (hgtF (abv (os.map Ow.pl)) os.length (abv (os.map Ow.pl) i) < hgtF (abv (os.map Ow.pl)) os.length (i : Int)) := Lib.hid (by rw [hh1, hh2, hle]; simp)
      have hai := HT.out.abv_in (n := (i : Int))
      rw [List.length_map] at hai
      by_cases hia : (i : Int) = a
      · have tx : ((i : Int) == a) = true := by rw [beq_iff_eq]; exact hia
        have hb : B = true := by rw [← HB.out, hle, hia]; simp
        subst hb
        clear hia hneg hm0 hh1 hh2 hlen hpl' hb' hle hx' hx hai
        go_wp2
        go_ret
        exact ⟨rfl, rfl⟩
      · have tx : ((i : Int) == a) = false := by rw [beq_eq_false_iff_ne]; exact hia
        have HB3 : Hid (decide (a ∈ l') = B) := Lib.hid (by
          rw [← HB.out, hle]
          have : (a ∈ (i : Int) :: l') ↔ a ∈ l' := by
            rw [List.mem_cons]
            exact ⟨fun h => h.resolve_left (fun h => hia h.symm), .inr⟩
          simp only [this])
        have HP3 := Lib.hid hpl'
        have HX := Lib.hid hx
        have HAI := Lib.hid hai
        have hab : abv (os.map Ow.pl) (i : Int) = if x.pl.up ≠ -1 then x.pl.up else if pAt (os.map Ow.pl) ((i : Int) - 1) Pl.inner (-1) = (i : Int) then (i : Int) - 1 else -1 := by
          unfold abv
          rw [if_neg (by omega), pAt_some hx']
        have HAB := Lib.hid hab
        have HUP := Lib.hid (HT.out.up i _ hx')
        obtain ⟨u, hu⟩ : ∃ u, x.pl.up = u := ⟨_, rfl⟩
        rw [hu] at c3 HAB HUP
        clear hia hneg hm0 hh1 hh2 hlen hpl' hb' hle hx' hx hai hab hu
        by_cases hu1 : u = -1
        · subst hu1
          have d1 : decide ((-1 : Int) < 0) = true := by decide
          rw [if_neg (by omega)] at HAB
          have HIN := Lib.hid HT.out.inn
          go_wp2
          go_loop [7, 23] (fun xv jv => ∃ (y : Int) (j : Nat), xv = .int .i64 y ∧ jv = .int .i64 j ∧ j ≤ os.length ∧ Hid (y = if pAt (os.map Ow.pl) ((i : Int) - 1) Pl.inner (-1) = (i : Int) ∧ i ≤ j then (i : Int) - 1 else -1)) (fun _ jv => os.length - (RowKit.intOf jv).toNat)
          case atStart => exact ⟨-1, 0, rfl, rfl, Nat.zero_le _, Lib.hid (by
            rw [if_neg]
            rintro ⟨h, h0⟩
            have : i = 0 := by omega
            subst this
            rw [pAt_neg (by omega)] at h
            omega)⟩
          case round =>
            obtain ⟨y, j, rfl, rfl, hj, HY⟩ := hrel
            by_cases hjl : j < os.length
            · have dj : decide ((j : Int) < (os.length : Int)) = true := decide_eq_true (by omega)
              obtain ⟨z, hz⟩ : ∃ z, os[j]? = some z := ⟨_, List.getElem?_eq_getElem hjl⟩
              have c5 : W.cell? ⟨g, j * 6 + 5, none⟩ = some (.int .i64 z.pl.inner) := H.out.cell hz (show 5 < 6 by omega)
              have hz' : (os.map Ow.pl)[j]? = some z.pl := by rw [List.getElem?_map, hz]; rfl
              have hzi := HIN.out j _ hz'
              have hpz : pAt (os.map Ow.pl) (j : Int) Pl.inner (-1) = z.pl.inner := pAt_some hz'
              by_cases hq : z.pl.inner = (i : Int)
              · have tz : (z.pl.inner == (i : Int)) = true := by rw [beq_iff_eq]; exact hq
                have hji : i = j + 1 := by rcases hzi with h | ⟨h, _⟩ <;> omega
                have HY2 : Hid ((j : Int) = if pAt (os.map Ow.pl) ((i : Int) - 1) Pl.inner (-1) = (i : Int) ∧ i ≤ j + 1 then (i : Int) - 1 else -1) := Lib.hid (by
                  rw [if_pos ⟨by rw [show (i : Int) - 1 = (j : Int) by omega, hpz]; exact hq, by omega⟩]
                  omega)
                clear hq hji hzi hpz hz' hz
                go_wp2
                go_round
                case rel => exact ⟨(j : Int), j + 1, rfl, by go_num, by omega, HY2⟩
                case measure => simp [RowKit.intOf]; omega
              · have tz : (z.pl.inner == (i : Int)) = false := by rw [beq_eq_false_iff_ne]; exact hq
                have HY2 : Hid (y = if pAt (os.map Ow.pl) ((i : Int) - 1) Pl.inner (-1) = (i : Int) ∧ i ≤ j + 1 then (i : Int) - 1 else -1) := Lib.hid (by
                  have := HY.out
                  by_cases hij : i = j + 1
                  · rw [if_neg (by rintro ⟨_, h⟩; omega)] at this
                    rw [if_neg]
                    · exact this
                    · rintro ⟨h, _⟩
                      rw [show (i : Int) - 1 = (j : Int) by omega, hpz] at h
                      exact hq h
                  · have e : (i ≤ j + 1) = (i ≤ j) := by apply propext; omega
                    simp only [e]
                    exact this)
                clear hq hzi hpz hz' hz
                go_wp2
                go_round
                case rel => exact ⟨y, j + 1, rfl, by go_num, by omega, HY2⟩
                case measure => simp [RowKit.intOf]; omega
            · obtain rfl : j = os.length := by omega
              have dj : decide ((os.length : Int) < (os.length : Int)) = false := decide_eq_false (by omega)
              have hy : y = abv (os.map Ow.pl) (i : Int) := by
                rw [HAB.out, HY.out]
                have : ((pAt (os.map Ow.pl) ((i : Int) - 1) Pl.inner (-1) = (i : Int)) ∧ i ≤ os.length) = (pAt (os.map Ow.pl) ((i : Int) - 1) Pl.inner (-1) = (i : Int)) := propext ⟨fun h => h.1, fun h => ⟨h, by omega⟩⟩
                simp only [this]
              rw [← hy] at HP3 HH HAI
              clear hy
              go_wp2
              go_round
              case rel => exact ⟨y, l', rfl, by rcases HAI.out with h | h <;> omega, by rcases HAI.out with h | h <;> omega, HP3, HB3⟩
              case measure => exact HH.out
        · have d1 : decide (u < 0) = false := decide_eq_false (by rcases HUP.out with h | ⟨j, y, h, _⟩ <;> omega)
          have hbu : abv (os.map Ow.pl) (i : Int) = u := by rw [HAB.out, if_pos hu1]
          rw [hbu] at HP3 HH HAI
          clear hbu hu1
          go_wp2
          go_round
          case rel => exact ⟨u, l', rfl, by rcases HAI.out with h | h <;> omega, by rcases HAI.out with h | h <;> omega, HP3, HB3⟩
          case measure => exact HH.out
end
end Go.Proofs.Ytodlcfhkiilpgaa
namespace Go.Proofs.Ytodlcfhkiilpgaa
open Go.RowKit Go.Shelf Go.Lib
attribute [local go_sem] Oper.semAt_some

theorem infoOw : (Try.prog.info? 57).map (fun i => (i.zero, i.size, i.bytes)) = some (some (.agg #[.int .i64 0, .string ⟨#[]⟩, .string ⟨#[]⟩, .int .i64 0, .slice none 0 0, .int .i64 0]), 6, 80) := by kernel_rfl
/-- what a law's call leaves that turns its list where it lies -/
def TrO (base : Nat) (v : Value) (os os' : List Ow) (W W' : World) : Prop :=
  OwM base v os' W' ∧ Frm (fun k => v.ownBlock = some k) W W' ∧ ∀ k, OB v os' k → OB v os k ∨ W.heap.size ≤ k
/-- what a call leaves that makes the list longer -/
def AdO (base : Nat) (v : Value) (os os' : List Ow) (W W' : World) : Prop :=
  ∃ v', OwM base v' os' W' ∧ Frm (fun k => v.ownBlock = some k) W W' ∧ ∀ k, OB v' os' k → OB v os k ∨ W.heap.size ≤ k
/-- the nodes that come: one, and a template's page -/
def newQ (n : Nat) (x : Pl) : List Pl := if tplQ x then [{ x with up := -1, kids := [], inner := (n : Int) + 1 }, ⟨1, ⟨#[]⟩, ⟨#[]⟩, -1, [], -1⟩] else [{ x with up := -1, kids := [], inner := -1 }]
theorem newQ_tr {ps : List Pl} (h : Tr ps) {x : Pl} (hk : 1 ≤ x.kind) (hk1 : x.kind = 1 → x.name = ⟨#[]⟩ ∧ x.data = ⟨#[]⟩) : Tr (ps ++ newQ ps.length x) := by
  unfold newQ
  split
  · rename_i ht
    have hk2 : x.kind = 2 := by unfold tplQ at ht; simp only [Bool.and_eq_true, beq_iff_eq] at ht; exact ht.1
    have hxn : Nmd { x with up := -1, kids := [], inner := (ps.length : Int) + 1 } := ⟨fun e => absurd (hk2.symm.trans e) (by decide), fun _ => ht, fun _ e => by have e : (ps.length : Int) + 1 = -1 := e; omega⟩
    refine tr_push h (fun j y hy => ?_) (by simp) (fun j y hy => ?_)
    rotate_left
    · match j, hy with
      | 0, hy => simp at hy; subst hy; exact hxn
      | 1, hy => simp at hy; subst hy; exact nmd_page
      | j + 2, hy => simp at hy
    match j, hy with
    | 0, hy => simp at hy; subst hy; exact ⟨rfl, rfl, hk, .inr ⟨by simp, hk2, _, rfl, rfl⟩⟩
    | 1, hy => simp at hy; subst hy; exact ⟨rfl, rfl, (show (1 : Int) ≤ 1 by omega), .inl rfl⟩
    | j + 2, hy => simp at hy
  · rename_i ht
    refine tr_push h (fun j y hy => ?_) (by simp) (nmd_one ⟨hk1, fun e => absurd rfl e, fun e => absurd e ht⟩)
    match j, hy with
    | 0, hy => simp at hy; subst hy; exact ⟨rfl, rfl, hk, .inl rfl⟩
    | j + 1, hy => simp at hy
theorem OwM.push {base : Nat} {v v' : Value} {os xs : List Ow} {W W' : World} (h : OwM base v os W) (hf : Frm (fun k => v.ownBlock = some k) W W') (hr : W'.ownsRow base 57 6 v' (os.length + xs.length) (cellsO os ++ cellsO xs)) (hx : ∀ x ∈ xs, x.kv = .slice none 0 0 ∧ x.pl.kids = []) : OwM base v' (os ++ xs) W' := by
  refine ⟨by rw [cellsO_snoc, List.length_append]; exact hr, fun i x hi => ?_⟩
  rcases Nat.lt_or_ge i os.length with hlt | hge
  · rw [List.getElem?_append_left hlt] at hi
    exact hf.own (h.kids i x hi) (fun k e e2 => rows_neN (h.kids i x hi) h.row (by decide) k e e2)
  · rw [List.getElem?_append_right hge] at hi
    obtain ⟨e1, e2⟩ := hx x (List.mem_of_getElem? hi)
    rw [e1, e2]
    exact World.ownsRow_nil _ _ _ _
theorem OB.push {v v' : Value} {os xs : List Ow} {W : World} (hv : v'.ownBlock = v.ownBlock ∨ ∃ g, v'.ownBlock = some g ∧ W.heap.size ≤ g) (hx : ∀ x ∈ xs, x.kv = .slice none 0 0 ∧ x.pl.kids = []) : ∀ k, OB v' (os ++ xs) k → OB v os k ∨ W.heap.size ≤ k := by
  rintro k (e | ⟨i, x, hi, e⟩)
  · rcases hv with h | ⟨g, h, hg⟩
    · exact .inl (.inl (h ▸ e))
    · rw [h] at e; cases e; exact .inr hg
  · rcases Nat.lt_or_ge i os.length with hlt | hge
    · rw [List.getElem?_append_left hlt] at hi; exact .inl (.inr ⟨i, x, hi, e⟩)
    · rw [List.getElem?_append_right hge] at hi
      rw [(hx x (List.mem_of_getElem? hi)).1] at e
      cases e
theorem ow_one (x : Pl) : ∀ u ∈ (Ow.mk x (.slice none 0 0)).cs, u.oneCell' = true := by
  intro u hu
  simp only [Ow.cs, List.mem_cons, List.not_mem_nil, or_false] at hu
  rcases hu with rfl | rfl | rfl | rfl | rfl | rfl <;> rfl
section
variable {base : Nat} {v : Value} {os : List Ow} {W W' : World}
set_option maxRecDepth 100000 in
set_option maxHeartbeats 2000000 in
theorem ladd_any (x : Pl) (W : World) (h : OwM base v os W) (hb : base ≤ W.heap.size) (hl : os.length ≤ 1000000) :
    Calls Try.prog 52 #[v, .agg #[.int .i64 x.kind, .string x.name, .string x.data, .int .i64 x.up, .slice none 0 0, .int .i64 x.inner]] W fun e W' =>
      ∃ v' os', e = .returned v' ∧ os'.map Ow.pl = os.map Ow.pl ++ newQ os.length x ∧ OwM base v' os' W' ∧ Frm (fun k => v.ownBlock = some k) W W' ∧ ∀ k, OB v' os' k → OB v os k ∨ W.heap.size ≤ k := by
  obtain ⟨i0, hi, hz0, hz1, hz2⟩ := info_parts infoOw
  obtain ⟨W1, hW1⟩ : ∃ W1, W.alloc (.cells #[.int .i64 x.kind, .string x.name, .string x.data, .int .i64 x.up, .slice none 0 0, .int .i64 x.inner] 57) = W1 := ⟨_, rfl⟩
  have hs1 : W1.heap.size = W.heap.size + 1 := by rw [← hW1, World.size_alloc]
  have hb1 : Below W.heap.size W W1 := by rw [← hW1]; exact (Below.refl _ W).alloc (Nat.le_refl _) _
  have g1 : W1.heap[W.heap.size]? = some (.cells #[.int .i64 x.kind, .string x.name, .string x.data, .int .i64 x.up, .slice none 0 0, .int .i64 x.inner] 57 (0, 0)) := by rw [← hW1]; exact heap_alloc_new W _
  obtain ⟨An, cap, rfl, hle, hmx, hg⟩ := h.sl
  have k0 : W1.cell? ⟨W.heap.size, 0, none⟩ = some (.int .i64 x.kind) := by rw [cell_of_row _ _ _ _ _ _ g1]; rfl
  have k1 : W1.cell? ⟨W.heap.size, 1, none⟩ = some (.string x.name) := by rw [cell_of_row _ _ _ _ _ _ g1]; rfl
  have k2 : W1.cell? ⟨W.heap.size, 2, none⟩ = some (.string x.data) := by rw [cell_of_row _ _ _ _ _ _ g1]; rfl
  have k3 : W1.cell? ⟨W.heap.size, 3, none⟩ = some (.int .i64 x.up) := by rw [cell_of_row _ _ _ _ _ _ g1]; rfl
  have k4 : W1.cell? ⟨W.heap.size, 4, none⟩ = some (.slice none 0 0) := by rw [cell_of_row _ _ _ _ _ _ g1]; rfl
  have k5 : W1.cell? ⟨W.heap.size, 5, none⟩ = some (.int .i64 x.inner) := by rw [cell_of_row _ _ _ _ _ _ g1]; rfl
  have H := Lib.hid h
  have HB1 := Lib.hid hb1
  have G1 := Lib.hid g1
  have HG := Lib.hid hg
  have HMX := Lib.hid hmx
  clear h hb1 g1 hg hmx
  subst hW1
  have FB := Lib.hid (fun (X Y : Array Value) => show Below W.heap.size W ((W.alloc (.cells X 57)).alloc (.cells Y 57)) from ((Below.refl _ W).alloc (Nat.le_refl _) _).alloc (by rw [World.size_alloc]; omega) _)
  have FS := Lib.hid (fun (X Y : Array Value) => show base ≤ ((W.alloc (.cells X 57)).alloc (.cells Y 57)).heap.size by simp; omega)
  have FN := Lib.hid (fun (X : Array Value) (l : List Value) => cells_add (w := (W.alloc (.cells X 57)).alloc (.cells l.toArray 57)) (g := W.heap.size + 1) (t := 57) (l := l) (by have := heap_alloc_new (W.alloc (.cells X 57)) (.cells l.toArray 57); rw [World.size_alloc] at this; exact this))
  have H63 : Hid (os.length + 1 ≤ maxLen) := Lib.hid (by unfold maxLen; omega)
  have HBY : Hid ((os.length + 1) * 80 ≤ 140737488355328) := Lib.hid (by omega)
  have H64 : Hid (os.length + 1 + 1 ≤ maxLen) := Lib.hid (by unfold maxLen; omega)
  have HBY2 : Hid ((os.length + 1 + 1) * 80 ≤ 140737488355328) := Lib.hid (by omega)
  have NO : tplQ x = false → Hid (newQ os.length x = [{ x with up := -1, kids := [], inner := -1 }]) := fun h => Lib.hid (by unfold newQ; rw [h]; rfl)
  have YES : tplQ x = true → Hid (newQ os.length x = [{ x with up := -1, kids := [], inner := (os.length : Int) + 1 }, ⟨1, ⟨#[]⟩, ⟨#[]⟩, -1, [], -1⟩]) := fun h => Lib.hid (by unfold newQ; rw [h]; rfl)
  unfold tplQ at NO YES
  clear HB1 G1
  cases ht : (x.kind == 2) with
  | false =>
    have HQ := NO (by rw [ht]; rfl)
    clear NO YES
    go_enter Try.func52, Try.ntmps52
    go_wp2_with (at_builtin; refine wpList_append_own_at _ rfl _ _ 45 rfl base 57 i0 _ 6 80 Try.underlying45 hi hz0 hz1 hz2 rfl (by decide) _ os.length (cellsO os) rfl (own_keep H.out.row (FB.out _ _)) ⟨W.heap.size + 1, 0, none⟩ 1 1 (Ow.mk { x with up := -1, kids := [], inner := -1 } (.slice none 0 0)).cs rfl rfl (FN.out _ _) (ow_one _) H63.out HBY.out (FS.out _ _) ?_; intro v' w5 hown5 hgrow5 hz5 hblk5; clear hz5; have hf5 : Frm (fun k => (Value.slice An os.length cap).ownBlock = some k) W w5 := ((Frm.below (FB.out _ _)).trans (Frm.grown hgrow5 (fun k e => e))); replace hblk5 : v'.ownBlock = (Value.slice An os.length cap).ownBlock ∨ ∃ g, v'.ownBlock = some g ∧ W.heap.size ≤ g := (hblk5.imp id (fun e => ⟨_, e, by simp; omega⟩)); clear hgrow5)
    go_ret
    refine ⟨v', os ++ [Ow.mk { x with up := -1, kids := [], inner := -1 } (.slice none 0 0)], rfl, ?_, H.out.push (xs := [_]) hf5 (by simpa [cellsO] using hown5) (fun y hy => by rw [List.mem_singleton] at hy; subst hy; exact ⟨rfl, rfl⟩), hf5, OB.push hblk5 (fun y hy => by rw [List.mem_singleton] at hy; subst hy; exact ⟨rfl, rfl⟩)⟩
    rw [List.map_append, HQ.out]
    rfl
  | true =>
    cases hn : (x.name.toList == [116, 101, 109, 112, 108, 97, 116, 101]) with
    | false =>
      have HQ := NO (by rw [ht, hn]; rfl)
      clear NO YES
      go_enter Try.func52, Try.ntmps52
      go_wp2_with (at_builtin; refine wpList_append_own_at _ rfl _ _ 45 rfl base 57 i0 _ 6 80 Try.underlying45 hi hz0 hz1 hz2 rfl (by decide) _ os.length (cellsO os) rfl (own_keep H.out.row (FB.out _ _)) ⟨W.heap.size + 1, 0, none⟩ 1 1 (Ow.mk { x with up := -1, kids := [], inner := -1 } (.slice none 0 0)).cs rfl rfl (FN.out _ _) (ow_one _) H63.out HBY.out (FS.out _ _) ?_; intro v' w5 hown5 hgrow5 hz5 hblk5; clear hz5; have hf5 : Frm (fun k => (Value.slice An os.length cap).ownBlock = some k) W w5 := ((Frm.below (FB.out _ _)).trans (Frm.grown hgrow5 (fun k e => e))); replace hblk5 : v'.ownBlock = (Value.slice An os.length cap).ownBlock ∨ ∃ g, v'.ownBlock = some g ∧ W.heap.size ≤ g := (hblk5.imp id (fun e => ⟨_, e, by simp; omega⟩)); clear hgrow5)
      go_ret
      refine ⟨v', os ++ [Ow.mk { x with up := -1, kids := [], inner := -1 } (.slice none 0 0)], rfl, ?_, H.out.push (xs := [_]) hf5 (by simpa [cellsO] using hown5) (fun y hy => by rw [List.mem_singleton] at hy; subst hy; exact ⟨rfl, rfl⟩), hf5, OB.push hblk5 (fun y hy => by rw [List.mem_singleton] at hy; subst hy; exact ⟨rfl, rfl⟩)⟩
      rw [List.map_append, HQ.out]
      rfl
    | true =>
      have HQ := YES (by rw [ht, hn]; rfl)
      clear NO YES
      go_enter Try.func52, Try.ntmps52
      go_wp2_with (first
        | (at_builtin; refine wpList_append_own_at _ rfl _ _ 45 rfl base 57 i0 _ 6 80 Try.underlying45 hi hz0 hz1 hz2 rfl (by decide) v5 (os.length + 1) _ rfl (own_keep hown5 ((Below.refl _ w5).alloc (Nat.le_refl _) _)) ⟨w5.heap.size, 0, none⟩ 1 1 (Ow.mk ⟨1, ⟨#[]⟩, ⟨#[]⟩, -1, [], -1⟩ (.slice none 0 0)).cs rfl rfl (cells_add (heap_alloc_new w5 _)) (ow_one _) H64.out HBY2.out (by rw [World.size_alloc]; have := hf5.size; omega) ?_; intro v6 w6 hown6 hgrow6 hz6 hblk6; clear hz6)
        | (at_builtin; refine wpList_append_own_at _ rfl _ _ 45 rfl base 57 i0 _ 6 80 Try.underlying45 hi hz0 hz1 hz2 rfl (by decide) _ os.length (cellsO os) rfl (own_keep H.out.row (FB.out _ _)) ⟨W.heap.size + 1, 0, none⟩ 1 1 (Ow.mk { x with up := -1, kids := [], inner := (os.length : Int) + 1 } (.slice none 0 0)).cs rfl rfl (FN.out _ _) (ow_one _) H63.out HBY.out (FS.out _ _) ?_; intro v5 w5 hown5 hgrow5 hz5 hblk5; clear hz5; have hf5 : Frm (fun k => (Value.slice An os.length cap).ownBlock = some k) W w5 := ((Frm.below (FB.out _ _)).trans (Frm.grown hgrow5 (fun k e => e))); replace hblk5 : v5.ownBlock = (Value.slice An os.length cap).ownBlock ∨ ∃ g, v5.ownBlock = some g ∧ W.heap.size ≤ g := (hblk5.imp id (fun e => ⟨_, e, by simp; omega⟩)); clear hgrow5))
      go_ret
      have HF6 : Hid (Frm (fun k => (Value.slice An os.length cap).ownBlock = some k) W w6) := Lib.hid (by
        refine (hf5.trans' (Frm.alloc (fun _ => False) w5 _) (fun k e => e.elim)).trans' (Frm.grown hgrow6 (fun k e => e)) (fun k e => ?_)
        rcases hblk5 with h | ⟨g, h, hg⟩
        · exact .inl (h ▸ e)
        · rw [h] at e; cases e; exact .inr hg)
      refine ⟨v6, os ++ [Ow.mk { x with up := -1, kids := [], inner := (os.length : Int) + 1 } (.slice none 0 0), Ow.mk ⟨1, ⟨#[]⟩, ⟨#[]⟩, -1, [], -1⟩ (.slice none 0 0)], rfl, ?_, H.out.push (xs := [_, _]) HF6.out (by simpa [cellsO] using hown6) (fun y hy => by simp only [List.mem_cons, List.not_mem_nil, or_false] at hy; rcases hy with rfl | rfl <;> exact ⟨rfl, rfl⟩), HF6.out, OB.push ?_ (fun y hy => by simp only [List.mem_cons, List.not_mem_nil, or_false] at hy; rcases hy with rfl | rfl <;> exact ⟨rfl, rfl⟩)⟩
      · rw [List.map_append, HQ.out]
        rfl
      · rcases hblk6 with h | h
        · rw [h]; exact hblk5
        · exact .inr ⟨_, h, by have := hf5.size; simp; omega⟩
end
end Go.Proofs.Ytodlcfhkiilpgaa
namespace Go.Proofs.Ytodlcfhkiilpgaa
open Go.RowKit Go.Shelf Go.Lib
attribute [local go_sem] Oper.semAt_some

section
variable {base : Nat} {v : Value} {os os' os'' : List Ow} {W W' W'' : World}
theorem TrO.refl (h : OwM base v os W) : TrO base v os os W W := ⟨h, Frm.refl _ _, fun _ h => .inl h⟩
theorem TrO.trans (h1 : TrO base v os os' W W') (h2 : TrO base v os' os'' W' W'') : TrO base v os os'' W W'' :=
  ⟨h2.1, h1.2.1.trans h2.2.1, fun k hk => by
    rcases h2.2.2 k hk with h | h
    · exact h1.2.2 k h
    · exact .inr (Nat.le_trans h1.2.1.size h)⟩
theorem TrO.ofBelow (h : OwM base v os W) (hb : Below W.heap.size W W') : TrO base v os os W W' := ⟨h.below hb, Frm.below hb, fun _ h => .inl h⟩
theorem OwM.upd {i j : Nat} {x x' : Ow} {g c : Nat} {u : Value} (h : OwM base (.slice (some ⟨g, 0, none⟩) os.length c) os W) (hx : os[i]? = some x) (hj : j < 6) (hc : x'.cs = x.cs.set j u) (hk : W.ownsRow base 3 1 x'.kv x'.pl.kids.length (x'.pl.kids.map (Value.int .i64))) :
    OwM base (.slice (some ⟨g, 0, none⟩) os.length c) (os.set i x') (W.setCell ⟨g, i * 6 + j, none⟩ u) ∧ Frm (fun k => (Value.slice (some ⟨g, 0, none⟩) os.length c).ownBlock = some k) W (W.setCell ⟨g, i * 6 + j, none⟩ u) := by
  have hil := (List.getElem?_eq_some_iff.1 hx).1
  have hf : Frm (fun k => k = g) W (W.setCell ⟨g, i * 6 + j, none⟩ u) := Frm.set u rfl
  refine ⟨⟨?_, fun m y hy => ?_⟩, hf.mono (fun k e => by rw [e]; rfl)⟩
  · rw [List.length_set, cellsO_set os i j x x' u hx hj hc]
    exact own_turnN h.row rfl _ u
  · by_cases e : m = i
    · subst e
      rw [List.getElem?_set_self hil] at hy
      cases hy
      exact hf.own hk (fun k e e2 => rows_neN hk h.row (by decide) k e (by rw [e2]; rfl))
    · rw [List.getElem?_set_ne (fun h => e h.symm)] at hy
      exact hf.own (h.kids m y hy) (fun k e e2 => rows_neN (h.kids m y hy) h.row (by decide) k e (by rw [e2]; rfl))
theorem OB.set {i : Nat} {x x' : Ow} {B : Nat} (hx : os[i]? = some x) (hk : ∀ k, x'.kv.ownBlock = some k → x.kv.ownBlock = some k ∨ B ≤ k) : ∀ k, OB v (os.set i x') k → OB v os k ∨ B ≤ k := by
  have hil := (List.getElem?_eq_some_iff.1 hx).1
  rintro k (e | ⟨m, y, hy, e⟩)
  · exact .inl (.inl e)
  · by_cases em : m = i
    · subst em
      rw [List.getElem?_set_self hil] at hy
      cases hy
      rcases hk k e with h | h
      · exact .inl (.inr ⟨m, x, hx, h⟩)
      · exact .inr h
    · rw [List.getElem?_set_ne (fun h => em h.symm)] at hy
      exact .inl (.inr ⟨m, y, hy, e⟩)
theorem setO_pl {i : Nat} {x x' : Ow} {f : Pl → Pl} (hx : os[i]? = some x) (hf : x'.pl = f x.pl) : (os.set i x').map Ow.pl = md (os.map Ow.pl) i f := by
  unfold md
  rw [List.getElem?_map, hx, List.map_set, hf]
  rfl
set_option maxHeartbeats 2000000 in
theorem lout_any (i : Nat) (x : Ow) (W : World) (h : OwM base v os W) (ht : Tr (os.map Ow.pl)) (hx : os[i]? = some x) (hl : os.length ≤ 1000000) :
    Calls Try.prog 54 #[v, .int .i64 i] W fun e W' => e = .returned (.tuple #[]) ∧ ∃ os', os'.map Ow.pl = outQ (os.map Ow.pl) i ∧ TrO base v os os' W W' := by
  have hil := (List.getElem?_eq_some_iff.1 hx).1
  obtain ⟨Av, c, hv, hle, hmx, hgv⟩ := h.sl
  obtain ⟨g, rfl, hbg, hgl⟩ := hgv (by omega)
  subst hv
  have c3 : W.cell? ⟨g, i * 6 + 3, none⟩ = some (.int .i64 x.pl.up) := h.cell hx (show 3 < 6 by omega)
  have f3 : W.frozen? ⟨g, i * 6 + 3, none⟩ = false := h.row.frozenAt _
  have hx' : (os.map Ow.pl)[i]? = some x.pl := by rw [List.getElem?_map, hx]; rfl
  have hgI : (i : Int) * 6 = ((i * 6 : Nat) : Int) := by omega
  have hup' : pAt (os.map Ow.pl) (i : Int) Pl.up (-1) = x.pl.up := pAt_some hx'
  rcases ht.up i _ hx' with hu | ⟨p, y', hu, hy', hm⟩
  · have HQ : Hid (os.map Ow.pl = outQ (os.map Ow.pl) i) := Lib.hid (by unfold outQ; rw [hup', hu, if_pos (by omega)])
    rw [hu] at c3
    have HR := Lib.hid (TrO.refl h)
    have d0 : decide ((-1 : Int) < 0) = true := by decide
    clear h ht hx hx' hup' hu hgv
    go_enter Try.func54, Try.ntmps54
    go_wp2
    refine bodyPost_ret (results_none rfl _ _ _) rfl ?_
    exact ⟨rfl, os, HQ.out, HR.out⟩
  · obtain ⟨y, hy, hyp⟩ := ow_get rfl hy'
    subst hyp
    have hpl := (List.getElem?_eq_some_iff.1 hy).1
    have c4 : W.cell? ⟨g, p * 6 + 4, none⟩ = some y.kv := h.cell hy (show 4 < 6 by omega)
    have f4 : W.frozen? ⟨g, p * 6 + 4, none⟩ = false := h.row.frozenAt _
    obtain ⟨A1, c1, e1, _, hKle, hA1, hr⟩ := Rd.own (h.kids p y hy)
    have hKmx : c1 ≤ maxLen := by
      rcases (h.kids p y hy).2 with ⟨e2, _⟩ | ⟨_, cap, cur, e2, _, _, _, hm, _⟩
      · rw [e1] at e2; injection e2 with _ _ e2; rw [e2]; exact Nat.zero_le _
      · rw [e1] at e2; injection e2 with _ _ e2; rw [e2]; exact hm
    have hK6 : y.pl.kids.length ≤ 1000000 := by
      have := ht.kids_le hy'
      rw [List.length_map] at this
      omega
    obtain ⟨k, hk, hkg⟩ := idx_mem hm
    have hkl := (List.getElem?_eq_some_iff.1 hkg).1
    have hrd : Rd W.drew .i64 A1 y.pl.kids := hr.below ((Below.refl _ W).drew)
    have KAT := at_any y.pl.kids (i : Int) A1 c1 W.drew hrd hK6
    rw [hk] at KAT
    have KCUT := Lib.hid (cut_any y.pl.kids k A1 c1 W.drew hrd hkl hK6 hKle hKmx)
    replace KAT := Lib.hid KAT
    have HQ : Hid (outQ (os.map Ow.pl) i = md (md (os.map Ow.pl) p (fun z => { z with kids := z.kids.erase (i : Int) })) i (fun z => { z with up := -1 })) := Lib.hid (by
      unfold outQ
      rw [hup', hu, if_neg (by omega), Int.toNat_natCast, Int.toNat_natCast])
    have HER := Lib.hid (show y.pl.kids.eraseIdx k = y.pl.kids.erase (i : Int) from erase_idx (i : Int) y.pl.kids 0 k (by rw [Nat.zero_add]; exact hk))
    rw [hu] at c3
    rw [e1] at c4
    have d0 : decide ((p : Int) < 0) = false := decide_eq_false (by omega)
    have H := Lib.hid h
    have HX := Lib.hid hx
    have HY := Lib.hid hy
    have HE1 := Lib.hid e1
    have hgP : (p : Int) * 6 = ((p * 6 : Nat) : Int) := by omega
    have FX := Lib.hid (fun (w2 : World) (hb : Below W.drew.heap.size W.drew w2) => show w2.frozen? ⟨g, p * 6 + 4, none⟩ = false ∧ w2.cell? ⟨g, p * 6 + 4, none⟩ = some (.slice A1 y.pl.kids.length c1) by
      have hG : w2.heap[g]? = W.heap[g]? := hb.block g hgl
      refine ⟨?_, (World.cell?_of_block (a := ⟨g, p * 6 + 4, none⟩) hG).trans c4⟩
      have := f4
      unfold World.frozen? at this ⊢
      rw [hG]
      exact this)
    clear h ht hx hx' hup' hu hgv hy hy' hm hk hkg hr hrd hA1 e1
    go_enter Try.func54, Try.ntmps54
    go_wp2_with fail
    go_region_law (first
      | (go_simp; go_at_call 55; refine KAT.out.mono ?_; rintro e w1 ⟨rfl, rfl⟩)
      | (go_simp; go_at_call 82; refine KCUT.out.mono ?_; rintro e w2 ⟨v2, rfl, ho2, hb2⟩; obtain ⟨A2, c2, hv2⟩ := own_slice ho2; subst hv2; obtain ⟨cF2, cE2⟩ := FX.out w2 hb2))
    all_goals
      have hb2' : Below W.heap.size W w2 := ((Below.refl _ W).drew).trans hb2
      have h2 := H.out.below hb2'
      have ho3 : w2.ownsRow base 3 1 (.slice A2 (y.pl.kids.eraseIdx k).length c2) (y.pl.kids.eraseIdx k).length ((y.pl.kids.eraseIdx k).map (Value.int .i64)) := own_move ho2 (fun _ _ => rfl) (by show base ≤ W.heap.size; omega)
      obtain ⟨y2, hy2⟩ : ∃ y2, Ow.mk { y.pl with kids := y.pl.kids.eraseIdx k } (.slice A2 (y.pl.kids.eraseIdx k).length c2) = y2 := ⟨_, rfl⟩
      have T1 := h2.upd (x' := y2) (u := .slice A2 (y.pl.kids.eraseIdx k).length c2) HY.out (show 4 < 6 by omega) (by rw [← hy2]; rfl) (by rw [← hy2]; exact ho3)
      have N1 := OB.set (v := .slice (some ⟨g, 0, none⟩) os.length c) (x' := y2) (B := W.heap.size) HY.out (fun q e => .inr (by
        rw [← hy2] at e
        exact (ho2.lt q e).1))
      obtain ⟨W3, hW3⟩ : ∃ W3, w2.setCell ⟨g, p * 6 + 4, none⟩ (.slice A2 (y.pl.kids.eraseIdx k).length c2) = W3 := ⟨_, rfl⟩
      have hp1 : (os.set p y2).map Ow.pl = md (os.map Ow.pl) p (fun z => { z with kids := z.kids.erase (i : Int) }) := setO_pl HY.out (by rw [← hy2, HER.out])
      obtain ⟨os1, hos1⟩ : ∃ os1, os.set p y2 = os1 := ⟨_, rfl⟩
      have hl1 : os1.length = os.length := by rw [← hos1, List.length_set]
      rw [hW3, hos1] at T1
      rw [hos1] at N1 hp1
      obtain ⟨h3, hf3⟩ := T1
      rw [← hl1] at h3
      obtain ⟨x1, hx1⟩ : ∃ x1, os1[i]? = some x1 := ⟨_, List.getElem?_eq_getElem (by omega)⟩
      have c33 : W3.cell? ⟨g, i * 6 + 3, none⟩ = some (.int .i64 x1.pl.up) := h3.cell hx1 (show 3 < 6 by omega)
      have f33 : W3.frozen? ⟨g, i * 6 + 3, none⟩ = false := h3.row.frozenAt _
      obtain ⟨x2, hx2⟩ : ∃ x2, Ow.mk { x1.pl with up := -1 } x1.kv = x2 := ⟨_, rfl⟩
      have T2 := h3.upd (x' := x2) (u := .int .i64 (-1)) hx1 (show 3 < 6 by omega) (by rw [← hx2]; rfl) (by rw [← hx2]; exact h3.kids i x1 hx1)
      have N2 := OB.set (v := .slice (some ⟨g, 0, none⟩) os1.length c) (x' := x2) (B := W.heap.size) hx1 (fun q e => .inl (by rw [← hx2] at e; exact e))
      have hp2 : (os1.set i x2).map Ow.pl = md (os1.map Ow.pl) i (fun z => { z with up := -1 }) := setO_pl hx1 (by rw [← hx2])
      obtain ⟨h4, hf4⟩ := T2
      rw [hl1] at h4 hf4 N2
      have HP2 : Hid ((os1.set i x2).map Ow.pl = outQ (os.map Ow.pl) i) := Lib.hid (by rw [hp2, hp1, HQ.out])
      have HR : Hid (TrO base (.slice (some ⟨g, 0, none⟩) os.length c) os (os1.set i x2) W (W3.setCell ⟨g, i * 6 + 3, none⟩ (.int .i64 (-1)))) := Lib.hid ⟨h4, ((Frm.below hb2').trans hf3).trans hf4, fun q e => by
        rcases N2 q e with e | e
        · exact N1 q e
        · exact .inr e⟩
      clear hb2' h2 ho3 ho2 N1 N2 hp1 hp2 h3 hf3 h4 hf4 hb2 cF2 cE2 FX H hx1 hos1 hl1 hx2 hy2 KAT KCUT c3 c4 f3 f4
      go_wp2
      go_end0
      exact ⟨rfl, os1.set i x2, HP2.out, HR.out⟩
end
end Go.Proofs.Ytodlcfhkiilpgaa
