/- The law's list: all beneath a node, in order, and how deep. -/
import Derived.Test.YtodlcfhkiilpgaaJc
namespace Go.Proofs.Ytodlcfhkiilpgaa
open Go.RowKit Go.Shelf Go.Lib
attribute [local go_sem] Oper.semAt_some

/-- two rows of numbers that grow by turns -/
structure R2 (B : Nat) (v1 v2 : Value) (l1 l2 : List Int) (W : World) : Prop where
  r1 : W.ownsRow B 3 1 v1 l1.length (l1.map (Value.int .i64))
  r2 : W.ownsRow B 3 1 v2 l2.length (l2.map (Value.int .i64))
  ne : ∀ g, v1.ownBlock = some g → v2.ownBlock ≠ some g
theorem R2.below {B : Nat} {v1 v2 : Value} {l1 l2 : List Int} {W W' : World} (h : R2 B v1 v2 l1 l2 W) (hb : Below W.heap.size W W') : R2 B v1 v2 l1 l2 W' := ⟨own_keep h.r1 hb, own_keep h.r2 hb, h.ne⟩
theorem R2.grow1 {B : Nat} {v1 v2 v' : Value} {l1 l2 l' : List Int} {W W' : World} (h : R2 B v1 v2 l1 l2 W) (h1 : W'.ownsRow B 3 1 v' l'.length (l'.map (Value.int .i64))) (hg : W.grownBy W' v1.ownBlock) (hl : v'.ownBlock = v1.ownBlock ∨ v'.ownBlock = some W.heap.size) : R2 B v' v2 l' l2 W' := by
  refine ⟨h1, own_far h.r2 hg (fun g e1 e2 => h.ne g e2 e1), fun g e => ?_⟩
  rcases hl with e2 | e2
  · rw [e2] at e; exact h.ne g e
  · rw [e2] at e
    cases e
    intro e3
    have := (h.r2.lt _ e3).2
    omega
theorem R2.grow2 {B : Nat} {v1 v2 v' : Value} {l1 l2 l' : List Int} {W W' : World} (h : R2 B v1 v2 l1 l2 W) (h1 : W'.ownsRow B 3 1 v' l'.length (l'.map (Value.int .i64))) (hg : W.grownBy W' v2.ownBlock) (hl : v'.ownBlock = v2.ownBlock ∨ v'.ownBlock = some W.heap.size) : R2 B v1 v' l1 l' W' := by
  refine ⟨own_far h.r1 hg (fun g e1 e2 => h.ne g e1 e2), h1, fun g e => ?_⟩
  rcases hl with e2 | e2
  · rw [e2]; exact h.ne g e
  · rw [e2]
    intro e3
    cases e3
    have := (h.r1.lt _ e).2
    omega
/-- an append of numbers, nil let in; where the longer row lies -/
theorem wpList_append_rdI {w : World} {ops : Array Oper} {rest : List Oper} {o : Oper} {a : Act} {Q : Exit → Act → World → Prop} {s x : Operand} (hgd : o.guard = none)
    (ho : o.op = .call { callee := .builtin .append, args := #[s, x], argTypes := #[27, 27] }) (base : Nat) (v : Value) (l : List Int) (hs : a.eval s = v) (hown : w.ownsRow base 3 1 v l.length (l.map (Value.int .i64)))
    (A : Option Addr) (m c : Nat) (hx : a.eval x = .slice A m c) (news : List Int) (hm : news.length = m) (hrd : Rd w .i64 A news) (hnone : A = none → c = 0) (hn : l.length + m ≤ 100000000) (hbase : base ≤ w.heap.size)
    (h : ∀ v' w', w'.ownsRow base 3 1 v' (l ++ news).length ((l ++ news).map (Value.int .i64)) → w.grownBy w' v.ownBlock → (v'.ownBlock = v.ownBlock ∨ v'.ownBlock = some w.heap.size) → wpList Try.prog ops Q rest (a.put o.dst v') w') : wpList Try.prog ops Q (o :: rest) a w := by
  obtain ⟨i0, hi, hz0, hz1, hz2⟩ := info_parts infoInt
  cases A with
  | none =>
    have hnn : news = [] := by
      rcases hrd with h | ⟨b, off, h, _⟩
      · exact h
      · cases h
    subst hnn
    obtain rfl : m = 0 := by simpa using hm.symm
    obtain rfl : c = 0 := hnone rfl
    exact wpList_append_own_none hgd s x 27 ho base 3 i0 1 Try.underlying27 hi v l.length _ hs hown hx (h v w (by simpa using hown) ⟨rfl, rfl, rfl, Nat.le_refl _, fun _ _ _ => rfl⟩ (.inl rfl))
  | some ad =>
    refine wpList_append_own_at w hgd s x 27 ho base 3 i0 _ 1 8 Try.underlying27 hi hz0 hz1 hz2 rfl (by decide) v l.length _ hs hown ad m c (news.map (Value.int .i64)) hx (by simp [hm]) hrd.add (ints_one news) (by unfold maxLen; omega) (by omega) hbase ?_
    intro v' w' h1 h2 _ h4
    refine h v' w' ?_ h2 h4
    rw [List.length_append, hm, List.map_append]
    exact h1
def fsts (o : List (Int × Nat)) : List Int := o.map Prod.fst
def snds (o : List (Int × Nat)) : List Int := o.map (fun x => (x.2 : Int))
theorem fsts_len (o : List (Int × Nat)) : (fsts o).length = o.length := by simp [fsts]
theorem snds_len (o : List (Int × Nat)) : (snds o).length = o.length := by simp [snds]
/-- what list answers -/
def LiPost (W : World) (o : List (Int × Nat)) (e : Ending) (W' : World) : Prop :=
  ∃ v1 v2, e = .returned (.tuple #[v1, v2]) ∧ W'.ownsRow W.heap.size 3 1 v1 o.length ((fsts o).map (Value.int .i64)) ∧ W'.ownsRow W.heap.size 3 1 v2 o.length ((snds o).map (Value.int .i64)) ∧ Below W.heap.size W W'
theorem row_form {W : World} {B n : Nat} {v : Value} {xs : List Int} (h : W.ownsRow B 3 1 v n (xs.map (Value.int .i64))) : ∃ A c, v = .slice A n c ∧ xs.length = n ∧ (A = none → c = 0) ∧ Rd W .i64 A xs := by
  obtain ⟨A, c, e, hl, _, hn, hr⟩ := Rd.own h
  exact ⟨A, c, by rw [e, hl], hl, hn, hr⟩
theorem row_rd {W : World} {B n c : Nat} {A : Option Addr} {xs : List Int} (h : W.ownsRow B 3 1 (.slice A n c) n (xs.map (Value.int .i64))) : Rd W .i64 A xs := by
  obtain ⟨A', c', e, _, _, _, hr⟩ := Rd.own h
  injection e with e _ _
  subst e
  exact hr
theorem step_len (o1 o2 : List (Int × Nat)) (k : Int) (d : Nat) : fsts (o1 ++ ((k, d) :: o2)) = fsts o1 ++ [k] ++ fsts o2 ∧ snds (o1 ++ ((k, d) :: o2)) = snds o1 ++ [(d : Int)] ++ snds o2 := by
  constructor
  · simp [fsts]
  · simp [snds]
section
variable {base : Nat} {os : List Ow} {Av : Option Addr} {cv : Nat}
theorem OwM.keepB {base : Nat} {v : Value} {os : List Ow} {W W' : World} (h : OwM base v os W) (hb : Below W.heap.size W W') : OwM base v os W' := h.below hb
set_option maxRecDepth 100000 in
set_option maxHeartbeats 4000000 in
theorem list_any (ht : Tr (os.map Ow.pl)) (hol : os.length ≤ 1000000) : ∀ (L : Nat) (n : Int) (d : Nat) (o : List (Int × Nat)) (W : World), o.length = L → OwM base (.slice Av os.length cv) os W → 0 ≤ n → n < os.length → Wk (os.map Ow.pl) (chQ (os.map Ow.pl) n) d o → d + o.length ≤ 50000 → o.length ≤ 40000 →
    Calls Try.prog 25 #[.slice Av os.length cv, .int .i64 n, .int .i64 (d : Int)] W (LiPost W o) := by
  intro L
  induction L using Nat.strongRecOn with
  | _ L ih =>
    intro n d o W hL how h0 h1 hwk hd ho4
    subst hL
    obtain ⟨i, rfl⟩ : ∃ i : Nat, n = i := ⟨n.toNat, by omega⟩
    have hil : i < os.length := by omega
    obtain ⟨x, hx⟩ : ∃ x, os[i]? = some x := ⟨_, List.getElem?_eq_getElem hil⟩
    have hx' : (os.map Ow.pl)[i]? = some x.pl := by rw [List.getElem?_map, hx]; rfl
    obtain ⟨g, hAv, _, hgl⟩ : ∃ g, Av = some ⟨g, 0, none⟩ ∧ base ≤ g ∧ g < W.heap.size := by
      obtain ⟨A9, c9, e9, _, _, h9⟩ := how.sl
      injection e9 with e9 _ _
      subst e9
      exact h9 (by omega)
    subst hAv
    have c5 : W.cell? ⟨g, i * 6 + 5, none⟩ = some (.int .i64 x.pl.inner) := how.cell hx (show 5 < 6 by omega)
    -- the node whose kids are shown
    obtain ⟨q, y, hq, hch⟩ : ∃ (q : Nat) (y : Ow), os[q]? = some y ∧ chQ (os.map Ow.pl) i = y.pl.kids ∧ ((x.pl.inner = -1 ∧ q = i) ∨ (x.pl.inner = (q : Int))) := by
      rcases ht.inn i _ hx' with e | ⟨e, _, z, hz, _⟩
      · refine ⟨i, x, hx, ?_, .inl ⟨e, rfl⟩⟩
        unfold chQ srcQ
        rw [pAt_some hx', e, if_neg (by omega), pAt_some hx']
      · obtain ⟨y, hy, hyz⟩ := ow_get rfl hz
        refine ⟨i + 1, y, hy, ?_, .inr (by omega)⟩
        unfold chQ srcQ
        rw [pAt_some hx', e, if_pos (by omega), show (i : Int) + 1 = ((i + 1 : Nat) : Int) by omega, pAt_some hz, hyz]
    obtain ⟨hch, hcase⟩ := hch
    have hql := (List.getElem?_eq_some_iff.1 hq).1
    obtain ⟨A1, c1, e1, hKle, hKmx, _, hr⟩ := kid_form how hq
    have c4 : W.cell? ⟨g, q * 6 + 4, none⟩ = some y.kv := how.cell hq (show 4 < 6 by omega)
    rw [e1] at c4
    obtain ⟨_, _, _, _, hkr, _⟩ := ht.ch hx'
    have hK6 : y.pl.kids.length ≤ 1000000 := by
      have := ht.kids_le (show (os.map Ow.pl)[q]? = some y.pl by rw [List.getElem?_map, hq]; rfl)
      rw [List.length_map] at this
      omega
    obtain ⟨K, hK⟩ : ∃ K, y.pl.kids = K := ⟨_, rfl⟩
    rw [hK] at c4 hr hch hKle hK6
    rw [hch] at hwk hkr
    have hgI : (i : Int) * 6 = ((i * 6 : Nat) : Int) := by omega
    have hgQ : (q : Int) * 6 = ((q * 6 : Nat) : Int) := by omega
    have HKR : Hid (∀ k ∈ K, 0 ≤ k ∧ k < (os.length : Int)) := Lib.hid (fun k hk => by have := hkr k hk; rw [List.length_map] at this; exact ⟨this.1, this.2.1⟩)
    have HWK : Hid (Wk (os.map Ow.pl) (K.drop 0) d o) := Lib.hid hwk
    have HRD := Lib.hid hr
    have HOW := Lib.hid how
    have HB0 : Hid (Below W.heap.size W ((W.alloc (.cells #[] 3)).alloc (.cells #[] 3))) := Lib.hid (((Below.refl _ W).alloc (Nat.le_refl _) _).alloc (by rw [World.size_alloc]; omega) _)
    have HR2 : Hid (R2 W.heap.size (.slice (some ⟨W.heap.size, 0, none⟩) 0 0) (.slice (some ⟨W.heap.size + 1, 0, none⟩) 0 0) (fsts []) (snds []) ((W.alloc (.cells #[] 3)).alloc (.cells #[] 3))) := Lib.hid ⟨(World.ownsRow_lit W #[] 0 (Nat.le_refl _) (by decide) rfl).alloc _, by
      have := World.ownsRow_lit (W.alloc (.cells #[] 3)) (base := W.heap.size) (e := 3) (size := 1) #[] 0 (by rw [World.size_alloc]; omega) (by decide) rfl
      rw [World.size_alloc] at this
      exact this, fun g e1 e2 => by simp [Value.ownBlock] at e1 e2; omega⟩
    clear how hwk hx hx' hq e1 hr hK hch hkr
    rcases hcase with ⟨hin, hqi⟩ | hin
    · subst hqi
      rw [hin] at c5
      have d1 : decide ((0 : Int) ≤ -1) = false := by decide
      clear hin
      go_enter Try.func25, Try.ntmps25
      go_wp2
      go_loopw [9, 10, 35] (fun x1 x2 jv wr => ∃ (j : Nat) (v1 v2 : Value) (o1 : List (Int × Nat)), x1 = v1 ∧ x2 = v2 ∧ jv = .int .i64 j ∧ j ≤ K.length ∧ Hid (R2 W.heap.size v1 v2 (fsts o1) (snds o1) wr) ∧ Hid (Below W.heap.size W wr) ∧ Hid (∃ o2, Wk (os.map Ow.pl) (K.drop j) d o2 ∧ o = o1 ++ o2)) (fun _ _ jv _ => K.length - (RowKit.intOf jv).toNat)
      case atStart => exact ⟨0, _, _, [], rfl, rfl, rfl, Nat.zero_le _, HR2.out, HB0.out, Lib.hid ⟨o, HWK.out, rfl⟩⟩
      case round =>
        obtain ⟨j, v1, v2, o1, hx1, hx2, rfl, hj, HR, HB, HO⟩ := hrel
        obtain ⟨B1, z1, hv1⟩ := own_slice HR.out.r1
        obtain ⟨B2, z2, hv2⟩ := own_slice HR.out.r2
        subst hv1 hv2 hx1 hx2
        by_cases hjl : j < K.length
        · have dj : decide ((j : Int) < (K.length : Int)) = true := decide_eq_true (by omega)
          obtain ⟨k, hk⟩ : ∃ k, K[j]? = some k := ⟨_, List.getElem?_eq_getElem hjl⟩
          obtain ⟨b1, f1, hA1, hb1, hcq⟩ := HRD.out.pos (by omega)
          subst hA1
          have ck : wr.cell? ⟨b1, f1 + j, none⟩ = some (.int .i64 k) := by
            have h1 := hcq j hjl
            rw [hk] at h1
            exact (HB.out.cell (p := ⟨b1, f1 + j, none⟩) hb1).trans h1
          have hdr : K.drop j = k :: K.drop (j + 1) := by
            rw [List.drop_eq_getElem_cons hjl]
            rw [List.getElem?_eq_getElem hjl] at hk
            injection hk with hk
            rw [hk]
          obtain ⟨oK, oR, hwk, hwr, hoo⟩ : ∃ oK oR, Wk (os.map Ow.pl) (chQ (os.map Ow.pl) k) (d + 1) oK ∧ Wk (os.map Ow.pl) (K.drop (j + 1)) d oR ∧ o = o1 ++ ((k, d) :: oK ++ oR) := by
            obtain ⟨o2, h2, h3⟩ := HO.out
            rw [hdr] at h2
            cases h2 with
            | cons a b => exact ⟨_, _, a, b, h3⟩
          have hlen : o.length = o1.length + (1 + oK.length + oR.length) := by rw [hoo]; simp; omega
          have hkr := HKR.out k (List.mem_of_getElem? hk)
          have HOO := Lib.hid hoo
          have HWK1 := Lib.hid hwk
          have HWR1 := Lib.hid hwr
          have hl1 : o1.length + 1 + oK.length ≤ 100000 := by omega
          have hF1 : (fsts o1).length ≤ 100000 := by rw [fsts_len]; omega
          have hS1 : (snds o1).length ≤ 100000 := by rw [snds_len]; omega
          clear hk hdr hcq hoo hwk hwr
          go_wp2_with (first
            | (at_builtin; refine wpList_append_rdI rfl rfl W.heap.size (.slice B1 (fsts o1).length z1) (fsts o1) rfl (own_keep HR.out.r1 ((Below.refl _ wr).alloc (Nat.le_refl _) _)) (some ⟨wr.heap.size, 0, none⟩) 1 1 rfl [k] rfl (rd_oneL wr k) (fun e => by cases e) (by omega) (by rw [World.size_alloc]; have := HB.out.size; omega) ?_; intro v3 w3 ho3 hg3 hl3; have HR3 := Lib.hid ((HR.out.below ((Below.refl _ wr).alloc (Nat.le_refl _) _)).grow1 ho3 hg3 hl3); have HB3 : Hid (Below W.heap.size W w3) := Lib.hid ((HB.out.alloc HB.out.size _).grown hg3 (by rw [World.size_alloc]; have := HB.out.size; omega) (fun q e => (HR.out.r1.lt q e).1)); clear ho3 hg3 hl3)
            | (at_builtin; refine wpList_append_rdI rfl rfl W.heap.size (.slice B2 (snds o1).length z2) (snds o1) rfl (own_keep HR3.out.r2 ((Below.refl _ w3).alloc (Nat.le_refl _) _)) (some ⟨w3.heap.size, 0, none⟩) 1 1 rfl [(d : Int)] rfl (rd_oneL w3 (d : Int)) (fun e => by cases e) (by omega) (by rw [World.size_alloc]; have := HB3.out.size; omega) ?_; intro v4 w4 ho4 hg4 hl4; have HR4 := Lib.hid ((HR3.out.below ((Below.refl _ w3).alloc (Nat.le_refl _) _)).grow2 ho4 hg4 hl4); have HB4 : Hid (Below W.heap.size W w4) := Lib.hid ((HB3.out.alloc HB3.out.size _).grown hg4 (by rw [World.size_alloc]; have := HB3.out.size; omega) (fun q e => (HR3.out.r2.lt q e).1)); clear ho4 hg4 hl4)
            | fail)
          have KL := ih oK.length (by omega) k (d + 1) oK w4 rfl (HOW.out.keepB HB4.out) hkr.1 hkr.2 HWK1.out (by omega) (by omega)
          unfold LiPost at KL
          rw [show (((d + 1 : Nat)) : Int) = (d : Int) + 1 by omega] at KL
          replace KL := Lib.hid KL
          go_wp2_with fail
          refine KL.out.mono ?_
          rintro e W5 ⟨u1, u2, rfl, ho5, ho6, hb5⟩
          obtain ⟨A5, c5, rfl, hl5, hn5, hr5⟩ := row_form ho5
          obtain ⟨A6, c6, rfl, hl6, hn6, hr6⟩ := row_form ho6
          have HR5 := Lib.hid (HR4.out.below hb5)
          have HB5 : Hid (Below W.heap.size W W5) := Lib.hid (HB4.out.trans (hb5.mono HB4.out.size))
          have HRD5 := Lib.hid hr5
          have HO6 := Lib.hid ho6
          have HN5 := Lib.hid hn5
          have HN6 := Lib.hid hn6
          have HL5 := Lib.hid hl5
          have HL6 := Lib.hid hl6
          have e13 : (fsts o1 ++ [k]).length + oK.length ≤ 100000000 := by simp [fsts_len]; omega
          have e14 : (snds o1 ++ [(d : Int)]).length + oK.length ≤ 100000000 := by simp [snds_len]; omega
          clear ho5 ho6 hb5 hr5 hr6 hn5 hn6 hl5 hl6 KL
          go_wp2_with (first
            | (at_builtin; refine wpList_append_rdI rfl rfl W.heap.size v3 (fsts o1 ++ [k]) rfl HR5.out.r1 A5 oK.length c5 rfl (fsts oK) HL5.out HRD5.out HN5.out e13 HB5.out.size ?_; intro v7 w7 ho7 hg7 hl7; have HR7 := Lib.hid (HR5.out.grow1 ho7 hg7 hl7); have HB7 : Hid (Below W.heap.size W w7) := Lib.hid (HB5.out.grown hg7 HB5.out.size (fun q e => (HR5.out.r1.lt q e).1)); have HRD7 : Hid (Rd w7 .i64 A6 (snds oK)) := Lib.hid (row_rd (own_far HO6.out hg7 (fun q e1 e2 => (by have h1 := (HO6.out.lt q e1).1; have h2 := (HR4.out.r1.lt q e2).2; omega)))); clear ho7 hg7 hl7)
            | (at_builtin; refine wpList_append_rdI rfl rfl W.heap.size v4 (snds o1 ++ [(d : Int)]) rfl HR7.out.r2 A6 oK.length c6 rfl (snds oK) HL6.out HRD7.out HN6.out e14 HB7.out.size ?_; intro v8 w8 ho8 hg8 hl8; have HR8 := Lib.hid (HR7.out.grow2 ho8 hg8 hl8); have HB8 : Hid (Below W.heap.size W w8) := Lib.hid (HB7.out.grown hg8 HB7.out.size (fun q e => (HR7.out.r2.lt q e).1)); clear ho8 hg8 hl8)
            | fail)
          go_roundw
          case rel => exact ⟨j + 1, v7, v8, o1 ++ ((k, d) :: oK), rfl, rfl, by go_num, by omega, Lib.hid (by rw [(step_len o1 oK k d).1, (step_len o1 oK k d).2]; exact HR8.out), HB8, Lib.hid ⟨oR, HWR1.out, by rw [HOO.out]; simp⟩⟩
          case measure => simp [RowKit.intOf]; omega
        · obtain rfl : j = K.length := by omega
          have dj : decide ((K.length : Int) < (K.length : Int)) = false := decide_eq_false (by omega)
          have hoo : o = o1 := by
            obtain ⟨o2, h2, h3⟩ := HO.out
            rw [List.drop_eq_nil_of_le (Nat.le_refl _)] at h2
            cases h2
            simpa using h3
          subst hoo
          go_wp2
          go_ret2
          exact ⟨_, _, rfl, by rw [← fsts_len o]; exact HR.out.r1, by rw [← snds_len o]; exact HR.out.r2, HB.out⟩
    · rw [hin] at c5
      have d1 : decide ((0 : Int) ≤ (q : Int)) = true := decide_eq_true (by omega)
      clear hin
      go_enter Try.func25, Try.ntmps25
      go_wp2
      go_loopw [9, 10, 35] (fun x1 x2 jv wr => ∃ (j : Nat) (v1 v2 : Value) (o1 : List (Int × Nat)), x1 = v1 ∧ x2 = v2 ∧ jv = .int .i64 j ∧ j ≤ K.length ∧ Hid (R2 W.heap.size v1 v2 (fsts o1) (snds o1) wr) ∧ Hid (Below W.heap.size W wr) ∧ Hid (∃ o2, Wk (os.map Ow.pl) (K.drop j) d o2 ∧ o = o1 ++ o2)) (fun _ _ jv _ => K.length - (RowKit.intOf jv).toNat)
      case atStart => exact ⟨0, _, _, [], rfl, rfl, rfl, Nat.zero_le _, HR2.out, HB0.out, Lib.hid ⟨o, HWK.out, rfl⟩⟩
      case round =>
        obtain ⟨j, v1, v2, o1, hx1, hx2, rfl, hj, HR, HB, HO⟩ := hrel
        obtain ⟨B1, z1, hv1⟩ := own_slice HR.out.r1
        obtain ⟨B2, z2, hv2⟩ := own_slice HR.out.r2
        subst hv1 hv2 hx1 hx2
        by_cases hjl : j < K.length
        · have dj : decide ((j : Int) < (K.length : Int)) = true := decide_eq_true (by omega)
          obtain ⟨k, hk⟩ : ∃ k, K[j]? = some k := ⟨_, List.getElem?_eq_getElem hjl⟩
          obtain ⟨b1, f1, hA1, hb1, hcq⟩ := HRD.out.pos (by omega)
          subst hA1
          have ck : wr.cell? ⟨b1, f1 + j, none⟩ = some (.int .i64 k) := by
            have h1 := hcq j hjl
            rw [hk] at h1
            exact (HB.out.cell (p := ⟨b1, f1 + j, none⟩) hb1).trans h1
          have hdr : K.drop j = k :: K.drop (j + 1) := by
            rw [List.drop_eq_getElem_cons hjl]
            rw [List.getElem?_eq_getElem hjl] at hk
            injection hk with hk
            rw [hk]
          obtain ⟨oK, oR, hwk, hwr, hoo⟩ : ∃ oK oR, Wk (os.map Ow.pl) (chQ (os.map Ow.pl) k) (d + 1) oK ∧ Wk (os.map Ow.pl) (K.drop (j + 1)) d oR ∧ o = o1 ++ ((k, d) :: oK ++ oR) := by
            obtain ⟨o2, h2, h3⟩ := HO.out
            rw [hdr] at h2
            cases h2 with
            | cons a b => exact ⟨_, _, a, b, h3⟩
          have hlen : o.length = o1.length + (1 + oK.length + oR.length) := by rw [hoo]; simp; omega
          have hkr := HKR.out k (List.mem_of_getElem? hk)
          have HOO := Lib.hid hoo
          have HWK1 := Lib.hid hwk
          have HWR1 := Lib.hid hwr
          have hl1 : o1.length + 1 + oK.length ≤ 100000 := by omega
          have hF1 : (fsts o1).length ≤ 100000 := by rw [fsts_len]; omega
          have hS1 : (snds o1).length ≤ 100000 := by rw [snds_len]; omega
          clear hk hdr hcq hoo hwk hwr
          go_wp2_with (first
            | (at_builtin; refine wpList_append_rdI rfl rfl W.heap.size (.slice B1 (fsts o1).length z1) (fsts o1) rfl (own_keep HR.out.r1 ((Below.refl _ wr).alloc (Nat.le_refl _) _)) (some ⟨wr.heap.size, 0, none⟩) 1 1 rfl [k] rfl (rd_oneL wr k) (fun e => by cases e) (by omega) (by rw [World.size_alloc]; have := HB.out.size; omega) ?_; intro v3 w3 ho3 hg3 hl3; have HR3 := Lib.hid ((HR.out.below ((Below.refl _ wr).alloc (Nat.le_refl _) _)).grow1 ho3 hg3 hl3); have HB3 : Hid (Below W.heap.size W w3) := Lib.hid ((HB.out.alloc HB.out.size _).grown hg3 (by rw [World.size_alloc]; have := HB.out.size; omega) (fun q e => (HR.out.r1.lt q e).1)); clear ho3 hg3 hl3)
            | (at_builtin; refine wpList_append_rdI rfl rfl W.heap.size (.slice B2 (snds o1).length z2) (snds o1) rfl (own_keep HR3.out.r2 ((Below.refl _ w3).alloc (Nat.le_refl _) _)) (some ⟨w3.heap.size, 0, none⟩) 1 1 rfl [(d : Int)] rfl (rd_oneL w3 (d : Int)) (fun e => by cases e) (by omega) (by rw [World.size_alloc]; have := HB3.out.size; omega) ?_; intro v4 w4 ho4 hg4 hl4; have HR4 := Lib.hid ((HR3.out.below ((Below.refl _ w3).alloc (Nat.le_refl _) _)).grow2 ho4 hg4 hl4); have HB4 : Hid (Below W.heap.size W w4) := Lib.hid ((HB3.out.alloc HB3.out.size _).grown hg4 (by rw [World.size_alloc]; have := HB3.out.size; omega) (fun q e => (HR3.out.r2.lt q e).1)); clear ho4 hg4 hl4)
            | fail)
          have KL := ih oK.length (by omega) k (d + 1) oK w4 rfl (HOW.out.keepB HB4.out) hkr.1 hkr.2 HWK1.out (by omega) (by omega)
          unfold LiPost at KL
          rw [show (((d + 1 : Nat)) : Int) = (d : Int) + 1 by omega] at KL
          replace KL := Lib.hid KL
          go_wp2_with fail
          refine KL.out.mono ?_
          rintro e W5 ⟨u1, u2, rfl, ho5, ho6, hb5⟩
          obtain ⟨A5, c5, rfl, hl5, hn5, hr5⟩ := row_form ho5
          obtain ⟨A6, c6, rfl, hl6, hn6, hr6⟩ := row_form ho6
          have HR5 := Lib.hid (HR4.out.below hb5)
          have HB5 : Hid (Below W.heap.size W W5) := Lib.hid (HB4.out.trans (hb5.mono HB4.out.size))
          have HRD5 := Lib.hid hr5
          have HO6 := Lib.hid ho6
          have HN5 := Lib.hid hn5
          have HN6 := Lib.hid hn6
          have HL5 := Lib.hid hl5
          have HL6 := Lib.hid hl6
          have e13 : (fsts o1 ++ [k]).length + oK.length ≤ 100000000 := by simp [fsts_len]; omega
          have e14 : (snds o1 ++ [(d : Int)]).length + oK.length ≤ 100000000 := by simp [snds_len]; omega
          clear ho5 ho6 hb5 hr5 hr6 hn5 hn6 hl5 hl6 KL
          go_wp2_with (first
            | (at_builtin; refine wpList_append_rdI rfl rfl W.heap.size v3 (fsts o1 ++ [k]) rfl HR5.out.r1 A5 oK.length c5 rfl (fsts oK) HL5.out HRD5.out HN5.out e13 HB5.out.size ?_; intro v7 w7 ho7 hg7 hl7; have HR7 := Lib.hid (HR5.out.grow1 ho7 hg7 hl7); have HB7 : Hid (Below W.heap.size W w7) := Lib.hid (HB5.out.grown hg7 HB5.out.size (fun q e => (HR5.out.r1.lt q e).1)); have HRD7 : Hid (Rd w7 .i64 A6 (snds oK)) := Lib.hid (row_rd (own_far HO6.out hg7 (fun q e1 e2 => (by have h1 := (HO6.out.lt q e1).1; have h2 := (HR4.out.r1.lt q e2).2; omega)))); clear ho7 hg7 hl7)
            | (at_builtin; refine wpList_append_rdI rfl rfl W.heap.size v4 (snds o1 ++ [(d : Int)]) rfl HR7.out.r2 A6 oK.length c6 rfl (snds oK) HL6.out HRD7.out HN6.out e14 HB7.out.size ?_; intro v8 w8 ho8 hg8 hl8; have HR8 := Lib.hid (HR7.out.grow2 ho8 hg8 hl8); have HB8 : Hid (Below W.heap.size W w8) := Lib.hid (HB7.out.grown hg8 HB7.out.size (fun q e => (HR7.out.r2.lt q e).1)); clear ho8 hg8 hl8)
            | fail)
          go_roundw
          case rel => exact ⟨j + 1, v7, v8, o1 ++ ((k, d) :: oK), rfl, rfl, by go_num, by omega, Lib.hid (by rw [(step_len o1 oK k d).1, (step_len o1 oK k d).2]; exact HR8.out), HB8, Lib.hid ⟨oR, HWR1.out, by rw [HOO.out]; simp⟩⟩
          case measure => simp [RowKit.intOf]; omega
        · obtain rfl : j = K.length := by omega
          have dj : decide ((K.length : Int) < (K.length : Int)) = false := decide_eq_false (by omega)
          have hoo : o = o1 := by
            obtain ⟨o2, h2, h3⟩ := HO.out
            rw [List.drop_eq_nil_of_le (Nat.le_refl _)] at h2
            cases h2
            simpa using h3
          subst hoo
          go_wp2
          go_ret2
          exact ⟨_, _, rfl, by rw [← fsts_len o]; exact HR.out.r1, by rw [← snds_len o]; exact HR.out.r2, HB.out⟩
end
end Go.Proofs.Ytodlcfhkiilpgaa
