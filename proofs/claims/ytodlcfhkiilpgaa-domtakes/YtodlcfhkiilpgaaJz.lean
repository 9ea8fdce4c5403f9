/- The contract of Take. -/
import Derived.Test.YtodlcfhkiilpgaaJy
namespace Go.Proofs.Ytodlcfhkiilpgaa
open Go.RowKit Go.Shelf Go.Lib
attribute [local go_sem] Oper.semAt_some

def docLenT (D : Nat) (W : World) : Nat := match W.cell? ⟨D, 0, none⟩ with
  | some (.slice _ n _) => n
  | _ => 0
theorem DocM.lenT {base D : Nat} {v : Value} {qk : Bool} {ns : List Nd} {W : World} (h : DocM base D v qk ns W) : docLenT D W = ns.length := by
  obtain ⟨A, cap, rfl, _, _, _⟩ := h.sl
  unfold docLenT
  rw [h.cells.1]
section
variable {b1 D1 : Nat} {v1 : Value} {q1 : Bool} {ns : List Nd} {b2 D2 : Nat} {q2 : Bool} {v20 : Value} {ms0 : List Nd}
/-- where Take's first loop stands -/
structure T1 (b1 D1 : Nat) (v1 : Value) (q1 : Bool) (ns : List Nd) (b2 D2 : Nat) (q2 : Bool) (w : World) (v20 : Value) (ms0 : List Nd) (L : List (Nat × Int)) (N : List Nd) (mv tv : Value) (X : World) (T : List (Int × Int)) (M : List (Nat × Int)) (ms N1 : List Nd) (v2 : Value) (Lr : List (Nat × Int)) (Nr : List Nd) : Prop where
  tm : TkM b1 D1 v1 q1 ns b2 D2 q2 w v20 ms0 v2 ms tv T mv M X
  tk : Tk ns ms.length T.reverse Lr Nr
  hL : L = M ++ Lr
  hN : N = N1 ++ Nr
  eq : EqM ms0 N1 ms
theorem box2 {w : World} {B : Nat} {a b : Int} (h : w.heap[B]? = some (.cells #[.int .i64 a, .int .i64 b] 81 (0, 0))) : w.cell? ⟨B, 0, none⟩ = some (.int .i64 a) ∧ w.cell? ⟨B, 1, none⟩ = some (.int .i64 b) := by
  refine ⟨?_, ?_⟩ <;> (rw [cell_of_row _ _ _ _ _ _ h]; rfl)
theorem mkS_snoc (M : List (Nat × Int)) (p : Nat × Int) : mkS (M ++ [p]) = mkS M ++ [((p.1 : Int), p.2)] := by unfold mkS; rw [List.map_append]; rfl
/-- of one node: the first is its copy, all others stand beneath copies -/
theorem Tk.good1 {ns : List Nd} (hG : Gd ns) (hC : Cn ns) {m : Nat} {n : Int} {L : List (Nat × Int)} {N : List Nd} (h : Tk ns m (itm [n] (-1)) L N) (hk : ∀ x, ns[n.toNat]? = some x → x.kind ≠ 1) :
    ∃ L', L = (m, -1) :: L' ∧ (L'.map Prod.fst).Pairwise (· < ·) ∧ ∀ p ∈ L', ∃ (qk qu : Nat) (zk zu : Nd), p.1 = m + qk ∧ N[qk]? = some zk ∧ zk.kind ≠ 1 ∧ p.2 = ((m + qu : Nat) : Int) ∧ m + qu < p.1 ∧ N[qu]? = some zu ∧ (zu.kind = 1 ∨ zu.kind = 2) := by
  have hpw := (h.good hG hC (fun p hp x hx => by rw [(show p = (n, -1) by simpa [itm] using hp)] at hx; exact hk x hx)).2
  have e : itm [n] (-1) = [(n, -1)] := rfl
  rw [e] at h
  cases h with
  | @plain _ _ _ _ L' N' x h1 h2 h3 h4 =>
    obtain ⟨i, x', rfl, hx'⟩ := inN_at h2
    rw [Int.toNat_natCast] at h1
    obtain ⟨g1, g2⟩ := hG i x h1
    rw [List.map_cons, List.pairwise_cons] at hpw
    refine ⟨L', rfl, hpw.2, fun p hp => ?_⟩
    have hI : ∀ q ∈ itm x.kids m ++ [], ∀ y, ns[q.1.toNat]? = some y → y.kind ≠ 1 := fun q hq y hy => by
      rw [List.append_nil] at hq
      exact (g2 _ (itm_mem hq).1).2 y hy
    obtain ⟨⟨q, z, a1, a2, a3⟩, a4⟩ := (h4.good hG hC hI).1 p hp
    rcases a4 with ⟨r, hr, e⟩ | ⟨u, z', e1, e2, e3, e4⟩
    · rw [List.append_nil] at hr
      exact ⟨q + 1, 0, z, _, by omega, a2, a3, by rw [← e, (itm_mem hr).2]; rfl, by omega, rfl, g1 (fun e => by rw [e] at hr; cases hr)⟩
    · exact ⟨q + 1, u + 1, z, z', by omega, a2, a3, by rw [e1]; omega, by omega, e3, e4⟩
  | @tpl _ _ _ _ L' N' x h1 h2 h3 h4 =>
    obtain ⟨i, x', rfl, hx'⟩ := inN_at h2
    rw [Int.toNat_natCast] at h1
    obtain ⟨g1, g2⟩ := hG i x h1
    rw [List.map_cons, List.pairwise_cons] at hpw
    refine ⟨L', rfl, hpw.2, fun p hp => ?_⟩
    have hI : ∀ q ∈ itm x.kids m ++ (itm (kdN ns (innN ns i)) ((m + 1 : Nat) : Int) ++ []), ∀ y, ns[q.1.toNat]? = some y → y.kind ≠ 1 := fun q hq y hy => by
      rw [List.append_nil] at hq
      rcases List.mem_append.1 hq with hq | hq
      · exact (g2 _ (itm_mem hq).1).2 y hy
      · exact (hG.kd _ _ (itm_mem hq).1).2 y hy
    obtain ⟨⟨q, z, a1, a2, a3⟩, a4⟩ := (h4.good hG hC hI).1 p hp
    rcases a4 with ⟨r, hr, e⟩ | ⟨u, z', e1, e2, e3, e4⟩
    · rw [List.append_nil] at hr
      rcases List.mem_append.1 hr with hr | hr
      · exact ⟨q + 2, 0, z, _, by omega, a2, a3, by rw [← e, (itm_mem hr).2]; rfl, by omega, rfl, g1 (fun e => by rw [e] at hr; cases hr)⟩
      · exact ⟨q + 2, 1, z, pageNd, by omega, a2, a3, by rw [← e, (itm_mem hr).2], by omega, rfl, .inl rfl⟩
    · exact ⟨q + 2, u + 2, z, z', by omega, a2, a3, by rw [e1]; omega, by omega, e3, e4⟩
theorem EqM.p2 {ms0 N ms : List Nd} (h : EqM ms0 N ms) (L' : List (Nat × Int)) : P2 ms0 N L' 0 ms :=
  ⟨h.len, fun j x hx => ⟨x, h.old j x hx, Lk8.refl x, rfl, rfl⟩, fun q z hz => by
    obtain ⟨y, hy, a, b, c⟩ := h.new q z hz
    exact ⟨y, hy, a, by rw [b]; rfl, .inl c, fun _ => c⟩⟩
theorem ck_len (L : List (Nat × Int)) (u : Int) : (ck L u).length ≤ L.length := by
  unfold ck
  rw [List.length_map]
  exact List.length_filter_le _ _
theorem P2.kids {ms N : List Nd} {L' : List (Nat × Int)} {i : Nat} {ys : List Nd} (h : P2 ms N L' i ys) (hm : ∀ (j : Nat) x, ms[j]? = some x → x.kids = []) : ∀ y ∈ ys, y.kids.length ≤ L'.length := by
  intro y hy
  obtain ⟨j, hj⟩ := List.mem_iff_getElem?.1 hy
  have hjl := (List.getElem?_eq_some_iff.1 hj).1
  have hl := h.len
  rcases Nat.lt_or_ge j ms.length with hlt | hge
  · obtain ⟨x, hx⟩ : ∃ x, ms[j]? = some x := ⟨_, List.getElem?_eq_getElem hlt⟩
    obtain ⟨y', hy', _, e, _⟩ := h.old j x hx
    rw [hj] at hy'
    cases hy'
    rw [e, hm j x hx]
    exact Nat.zero_le _
  · obtain ⟨q, rfl⟩ : ∃ q, j = ms.length + q := ⟨j - ms.length, by omega⟩
    obtain ⟨z, hz⟩ : ∃ z, N[q]? = some z := ⟨_, List.getElem?_eq_getElem (by omega)⟩
    obtain ⟨y', hy', _, e, _⟩ := h.new q z hz
    rw [hj] at hy'
    cases hy'
    rw [e]
    refine Nat.le_trans (ck_len _ _) ?_
    rw [List.length_take]
    omega
/-- one step of the copying -/
theorem tk_next {ns ms : List Nd} {j : Nat} {x : Nd} {up : Int} {rest : List (Int × Int)} {Lr : List (Nat × Int)} {Nr : List Nd} (hC : Cn ns) (hx : ns[j]? = some x) (h : Tk ns ms.length (((j : Int), up) :: rest) Lr Nr) (A : Option Addr) (c : Nat) :
    ∃ L' N', Lr = (ms.length, up) :: L' ∧ Nr = nwZ ms.length x ++ N' ∧ Tk ns (ms ++ nwN ms.length x A c).length (itm x.kids ms.length ++ (itm (kdN ns (innN ns j)) (innN (ms ++ nwN ms.length x A c) ms.length) ++ rest)) L' N' := by
  obtain ⟨c1, c2⟩ := hC j x hx
  cases h with
  | @plain _ _ _ _ L' N' x' h1 h2 h3 h4 =>
    rw [Int.toNat_natCast, hx] at h1
    cases h1
    have hk : kdN ns (innN ns j) = [] := by rw [c1 h3]; unfold kdN; rw [atN_none (inN_neg ns)]
    refine ⟨L', N', rfl, by unfold nwZ; rw [h3]; rfl, ?_⟩
    rw [hk, List.length_append, nw_len, h3]
    exact h4
  | @tpl _ _ _ _ L' N' x' h1 h2 h3 h4 =>
    rw [Int.toNat_natCast, hx] at h1
    cases h1
    refine ⟨L', N', rfl, by unfold nwZ; rw [h3]; rfl, ?_⟩
    have hi : innN (ms ++ nwN ms.length x A c) ms.length = ((ms.length + 1 : Nat) : Int) := by
      obtain ⟨y, hy, _, _, _, _, _, _, _, _, _, h9⟩ := nw_get ms x A c
      unfold innN
      rw [atN_some hy, (h9 h3).1, if_neg (by omega)]
    rw [hi, List.length_append, nw_len, h3]
    exact h4
set_option maxRecDepth 100000 in
set_option maxHeartbeats 8000000 in
theorem take_any (n : Int) (w : World) (h1 : DocM b1 D1 v1 q1 ns w) (h2 : DocM b2 D2 v20 q2 ms0 w) (hs12 : ∀ k, DB D2 v20 ms0 k → ¬ DB D1 v1 ns k) (hG : Gd ns) (hC : Cn ns) (hat : ∀ x ∈ ns, x.attrs.length ≤ 1000000) (hnl : ns.length ≤ 1000000)
    (L : List (Nat × Int)) (N : List Nd) (i : Nat) (x0 : Nd) (hn : n = (i : Int)) (hx0 : ns[i]? = some x0) (hk0 : x0.kind ≠ 1) (htk : Tk ns ms0.length (itm [n] (-1)) L N) (hsz : ms0.length + N.length < 10000) (hms : ∀ (j : Nat) x, ms0[j]? = some x → x.up = -1 ∧ x.inner ≤ 0 ∧ x.kids = []) :
    Calls Try.prog 17 #[.pointer (some ⟨D2, 0, none⟩), .pointer (some ⟨D1, 0, none⟩), .int .i64 n] w fun e W' => e = .returned (.int .i64 ms0.length) ∧ ∃ ys L', L = (ms0.length, -1) :: L' ∧ P2 ms0 N L' L'.length ys ∧ Adds b2 D2 v20 q2 ms0 ys w W' := by
  subst hn
  have KH := Lib.hid (has_any (i : Int) w h1)
  rw [inN_of hx0] at KH
  obtain ⟨A1, ca1, rfl, hle1, hmx1, hg1⟩ := h1.sl
  have hil := (List.getElem?_eq_some_iff.1 hx0).1
  obtain ⟨G1, rfl, _, hG1⟩ := hg1 (by omega)
  have c1 := h1.cells.1
  have ck0 : w.cell? ⟨G1, i * 10, none⟩ = some (.int .i64 x0.kind) := h1.cell hx0 (show 0 < 10 by omega)
  have hne : (x0.kind == 1) = false := by rw [beq_eq_false_iff_ne]; exact hk0
  have H1 := Lib.hid h1
  have H2 := Lib.hid h2
  have HS12 := Lib.hid hs12
  have HGD := Lib.hid hG
  have HCN := Lib.hid hC
  have HAT := Lib.hid hat
  have HTK := Lib.hid htk
  have HMS := Lib.hid hms
  have HX0 := Lib.hid hx0
  have HSZ := Lib.hid hsz
  unfold maxLen at hmx1
  -- what is to do at first
  obtain ⟨W1, hW1⟩ : ∃ W1, w.alloc (.cells #[.int .i64 i, .int .i64 (-1)] 81) = W1 := ⟨_, rfl⟩
  have hto : W1.ownsRow w.heap.size 81 2 (.slice (some ⟨w.heap.size, 0, none⟩) 1 1) 1 (cellsS [((i : Int), -1)]) := by
    rw [← hW1]
    exact ⟨rfl, .inr ⟨w.heap.size, 1, #[.int .i64 i, .int .i64 (-1)], rfl, Nat.le_refl _, heap_alloc_new w _, Nat.le_refl _, by decide, rfl, rfl⟩⟩
  have hb1 : Below w.heap.size w W1 := by rw [← hW1]; exact (Below.refl _ w).alloc (Nat.le_refl _) _
  have t0 : TkM b1 D1 (.slice (some ⟨G1, 0, none⟩) ns.length ca1) q1 ns b2 D2 q2 w v20 ms0 v20 ms0 (.slice (some ⟨w.heap.size, 0, none⟩) 1 1) [((i : Int), -1)] (.slice none 0 0) [] W1 :=
    ⟨h1.below hb1, h2.below hb1, hto, World.ownsRow_nil _ _ _ _, fun k hk => (h1.in_ k hk).2, hs12, fun g e e2 => (by cases e2), fun k hk => ⟨fun e => (by have h9 := (h2.in_ k hk).2; have e2 : some w.heap.size = some k := e; injection e2 with e2; omega), fun e => (by cases e)⟩, fun k hk => .inl hk, Frm.below hb1, Nat.le_trans h2.ge (Nat.le_of_lt h2.lt)⟩
  have HT0 := Lib.hid t0
  have HK0 := Lib.hid hk0
  clear h1 h2 hs12 hG hC hat htk hms hx0 hg1 hto hb1 t0 hsz hk0
  go_enter Try.func17, Try.ntmps17
  go_wp2_with fail
  refine KH.out.mono ?_
  rintro e w1 ⟨rfl, hw⟩
  rw [hw]
  clear hw w1
  have HW1 := Lib.hid hW1
  have H20 := Lib.hid (fun (k : Nat) => H2.out.in_ k)
  clear hW1
  go_upto_region 5 with fail
  rw [HW1.out]
  clear c1 ck0 hne KH
  go_loopw [7, 8] (fun mv tv wr => ∃ (T : List (Int × Int)) (M : List (Nat × Int)) (ms N1 : List Nd) (v2 : Value) (Lr : List (Nat × Int)) (Nr : List Nd) (mA : Option Addr) (mC : Nat) (tA : Option Addr) (tC : Nat), mv = .slice mA (mkS M).length mC ∧ tv = .slice tA T.length tC ∧ Hid (T1 b1 D1 (.slice (some ⟨G1, 0, none⟩) ns.length ca1) q1 ns b2 D2 q2 w v20 ms0 L N mv tv wr T M ms N1 v2 Lr Nr) ∧ Hid (M.length ≤ 10000 ∧ ms.length ≤ 10000)) (fun _ _ wr => 20000 - docLenT D2 wr)
  case atStart => exact ⟨[((i : Int), -1)], [], ms0, [], v20, L, N, none, 0, some ⟨w.heap.size, 0, none⟩, 1, rfl, rfl, Lib.hid ⟨HT0.out, HTK.out, rfl, rfl, EqM.nil ms0⟩, Lib.hid ⟨by simp, by have := HSZ.out; omega⟩⟩
  case round =>
    obtain ⟨T, M, ms, N1, v2, Lr, Nr, mA, mC, tA, tC, rfl, rfl, HT, HB⟩ := hrel
    rcases T.eq_nil_or_concat with rfl | ⟨T0, p, rfl⟩
    · have hend : Lr = [] ∧ Nr = [] := by
        have := HT.out.tk
        rw [List.reverse_nil] at this
        cases this
        exact ⟨rfl, rfl⟩
      obtain ⟨rfl, rfl⟩ := hend
      have hLM : L = M := by have := HT.out.hL; rwa [List.append_nil] at this
      have hNN : N = N1 := by have := HT.out.hN; rwa [List.append_nil] at this
      obtain ⟨L', hLL, hpw, hgood⟩ := HTK.out.good1 HGD.out HCN.out (fun x hx => by rw [Int.toNat_natCast, HX0.out] at hx; cases hx; exact HK0.out)
      have heq := HT.out.eq
      rw [← hNN] at heq
      have hp2 := heq.p2 L'
      have hM : mkS M = ((ms0.length : Int), -1) :: mkS L' := by rw [← hLM, hLL]; rfl
      have hma := HT.out.tm.ma
      have hMl : (mkS M).length = L'.length + 1 := by rw [hM]; simp [mkS_len]
      obtain ⟨gm, rfl⟩ : ∃ g : Nat, mA = some ⟨g, 0, none⟩ := by
        rcases hma.2 with ⟨_, h0⟩ | ⟨g, cap, cur, e, _⟩
        · rw [hMl] at h0; omega
        · injection e with e; exact ⟨g, e⟩
      have hmC : L'.length + 1 ≤ mC ∧ mC ≤ maxLen := by
        rcases hma.2 with ⟨_, h0⟩ | ⟨g', cap, cur, e, _, _, hn, hm, _⟩
        · rw [hMl] at h0; omega
        · injection e with _ _ e3; rw [e3, ← hMl]; exact ⟨hn, hm⟩
      obtain ⟨hmC1, hmC2⟩ := hmC
      unfold maxLen at hmC2
      rw [hMl] at HT ⊢
      have HLL := Lib.hid hLL
      have HPW := Lib.hid hpw
      have HGOOD := Lib.hid hgood
      have HP2 := Lib.hid hp2
      have HM := Lib.hid hM
      have HMLL := Lib.hid hMl
      have hL'l : L'.length ≤ 10000 := by have := HB.out.1; rw [← mkS_len, hMl] at this; omega
      clear hLM hNN hLL hpw hgood heq hp2 hM hma hMl
      have HTM0 := Lib.hid HT.out.tm
      go_upto_region 16 with fail
      · go_loopw [83] (fun iv wr2 => ∃ (q : Nat) (ys : List Nd) (v2' : Value), iv = .int .i64 q ∧ q ≤ L'.length ∧ Hid (TkM b1 D1 (.slice (some ⟨G1, 0, none⟩) ns.length ca1) q1 ns b2 D2 q2 w v20 ms0 v2' ys (.slice tA 0 tC) [] (.slice (some ⟨gm, 0, none⟩) (L'.length + 1) mC) M wr2) ∧ Hid (P2 ms0 N L' q ys)) (fun iv _ => L'.length - (intOf iv).toNat)
        case atStart => exact ⟨0, ms, v2, rfl, Nat.zero_le _, HTM0, HP2⟩
        case round =>
          obtain ⟨q, ys, v2', rfl, hq, HTM, HP⟩ := hrel
          by_cases hlt : q < L'.length
          · exfalso; omega
          · obtain rfl : q = L'.length := by omega
            have hma := HTM.out.ma
            rw [HMLL.out] at hma
            obtain ⟨k0, _⟩ := cellsS_get (mkS M) 0 ((ms0.length : Int), -1) (by rw [HM.out]; rfl)
            have ct0 : wr.cell? ⟨gm, 0, none⟩ = some (.int .i64 ms0.length) := by
              have := hma.cellAt 0 (by omega)
              rw [show (cellsS (mkS M))[0]? = _ from k0] at this
              exact this
            have HF : Hid (∃ ys L', L = (ms0.length, -1) :: L' ∧ P2 ms0 N L' L'.length ys ∧ Adds b2 D2 v20 q2 ms0 ys w wr) := Lib.hid ⟨ys, L', HLL.out, HP.out, v2', HTM.out.d2, HTM.out.fr, HTM.out.s2o⟩
            clear hma k0 HTM HP
            go_wp2
            go_ret
            exact ⟨rfl, HF.out⟩
      · go_loopw [83] (fun iv wr2 => ∃ (q : Nat) (ys : List Nd) (v2' : Value), iv = .int .i64 q ∧ q ≤ L'.length ∧ Hid (TkM b1 D1 (.slice (some ⟨G1, 0, none⟩) ns.length ca1) q1 ns b2 D2 q2 w v20 ms0 v2' ys (.slice tA 0 tC) [] (.slice (some ⟨gm, 0, none⟩) (L'.length + 1) mC) M wr2) ∧ Hid (P2 ms0 N L' q ys)) (fun iv _ => L'.length - (intOf iv).toNat)
        case atStart => exact ⟨0, ms, v2, rfl, Nat.zero_le _, HTM0, HP2⟩
        case round =>
          obtain ⟨q, ys, v2', rfl, hq, HTM, HP⟩ := hrel
          by_cases hlt : q < L'.length
          · obtain ⟨⟨K, u⟩, hKu⟩ : ∃ p, L'[q]? = some p := ⟨_, List.getElem?_eq_getElem hlt⟩
            obtain ⟨qk, qu, zk, zu, g1, g2, g3, g4, g5, g6, g7⟩ := HGOOD.out _ (List.mem_of_getElem? hKu)
            simp only at g1 g4 g5
            have hget : (mkS M)[q + 1]? = some ((K : Int), u) := by rw [HM.out, List.getElem?_cons_succ]; unfold mkS; rw [List.getElem?_map, hKu]; rfl
            obtain ⟨k0, k1⟩ := cellsS_get (mkS M) (q + 1) _ hget
            have hma := HTM.out.ma
            rw [HMLL.out] at hma
            have ct0 := hma.cellAt ((q + 1) * 2) (by omega)
            have ct1 := hma.cellAt ((q + 1) * 2 + 1) (by omega)
            rw [k0] at ct0
            rw [k1] at ct1
            simp only at ct0 ct1
            rw [show (q + 1) * 2 = 2 + q * 2 by omega] at ct0
            rw [show (q + 1) * 2 + 1 = 2 + q * 2 + 1 by omega] at ct1
            have hgm := (hma.lt gm rfl).2
            obtain ⟨W8, hW8⟩ : ∃ W8, wr.alloc (.cells #[.int .i64 K, .int .i64 u] 81) = W8 := ⟨_, rfl⟩
            have hb8 : Below wr.heap.size wr W8 := by rw [← hW8]; exact (Below.refl _ wr).alloc (Nat.le_refl _) _
            have m8 := HTM.out.below hb8
            have hyl := HP.out.len
            have hsz8 := HSZ.out
            have hkk := HP.out.kids (fun j x hx => (HMS.out j x hx).2.2)
            have kput := put_any u (K : Int) (-1) W8 m8.d2 (by omega) (fun x hx => by have := hkk x hx; omega)
            have hstep := fun v1 v2 => HP.out.step (by omega) (fun j x hx => ⟨(HMS.out j x hx).1, (HMS.out j x hx).2.1⟩) (fun q z hz => (HTK.out.blank q z hz).2.2) HPW.out hKu g1 g2 g3 g4 g5 g6 g7 v1 v2
            have KPUT := Lib.hid kput
            have HST := Lib.hid hstep
            have M8 := Lib.hid m8
            have HW8 := Lib.hid hW8
            clear hma hget k0 k1 g1 g2 g3 g4 g5 g6 g7 hb8 m8 hyl hsz8 hkk kput hstep hW8 hKu
            go_upto_region 18 with fail
            rw [HW8.out]
            obtain ⟨e0, e1⟩ : W8.cell? ⟨wr.heap.size, 0, none⟩ = some (.int .i64 K) ∧ W8.cell? ⟨wr.heap.size, 1, none⟩ = some (.int .i64 u) := box2 (by rw [← HW8.out]; exact heap_alloc_new wr _)
            clear ct0 ct1
            go_wp2_with fail
            refine KPUT.out.mono ?_
            rintro e W9 ⟨w1, w2, rfl, htr⟩
            obtain ⟨hz, hp⟩ := HST.out w1 w2
            obtain ⟨v9, m9⟩ := M8.out.adds htr.adds
            have HM9 := Lib.hid m9
            have HP9 := Lib.hid hp
            clear htr hz hp m9 KPUT HST M8 e0 e1
            go_wp2
            go_roundw
            case rel => exact ⟨q + 1, _, v9, by go_num, by omega, HM9, HP9⟩
            case measure => simp [intOf]; omega
          · obtain rfl : q = L'.length := by omega
            have hma := HTM.out.ma
            rw [HMLL.out] at hma
            obtain ⟨k0, _⟩ := cellsS_get (mkS M) 0 ((ms0.length : Int), -1) (by rw [HM.out]; rfl)
            have ct0 : wr.cell? ⟨gm, 0, none⟩ = some (.int .i64 ms0.length) := by
              have := hma.cellAt 0 (by omega)
              rw [show (cellsS (mkS M))[0]? = _ from k0] at this
              exact this
            have HF : Hid (∃ ys L', L = (ms0.length, -1) :: L' ∧ P2 ms0 N L' L'.length ys ∧ Adds b2 D2 v20 q2 ms0 ys w wr) := Lib.hid ⟨ys, L', HLL.out, HP.out, v2', HTM.out.d2, HTM.out.fr, HTM.out.s2o⟩
            clear hma k0 HTM HP
            go_wp2
            go_ret
            exact ⟨rfl, HF.out⟩
    · obtain ⟨k, up⟩ := p
      have htk := HT.out.tk
      rw [List.concat_eq_append, List.reverse_append] at htk
      simp only [List.reverse_cons, List.reverse_nil, List.nil_append, List.cons_append] at htk
      have hkx : ∃ (j : Nat) (x : Nd), k = j ∧ ns[j]? = some x := by
        cases htk with
        | plain a b _ _ => obtain ⟨j, x, e, hx⟩ := inN_at b; exact ⟨j, x, e, hx⟩
        | tpl a b _ _ => obtain ⟨j, x, e, hx⟩ := inN_at b; exact ⟨j, x, e, hx⟩
      obtain ⟨j, x, rfl, hx⟩ := hkx
      rw [List.concat_eq_append] at HT ⊢
      have hcut := HT.out.tm.cut
      have hrow := HT.out.tm.td
      -- the last pair, read
      obtain ⟨g, rfl⟩ : ∃ g : Nat, tA = some ⟨g, 0, none⟩ := by
        rcases hrow.2 with ⟨_, h0⟩ | ⟨g, cap, cur, e, _⟩
        · simp at h0
        · injection e with e; exact ⟨g, e⟩
      have hgl := (hrow.lt g rfl).2
      obtain ⟨q0, q1⟩ := cellsS_get (T0 ++ [((j : Int), up)]) T0.length ((j : Int), up) (by rw [List.getElem?_append_right (Nat.le_refl _), Nat.sub_self]; rfl)
      have ct0 : wr.cell? ⟨g, T0.length * 2, none⟩ = some (.int .i64 j) := by rw [hrow.cellAt _ (by rw [List.length_append]; simp), q0]
      have ct1 : wr.cell? ⟨g, T0.length * 2 + 1, none⟩ = some (.int .i64 up) := by rw [hrow.cellAt _ (by rw [List.length_append]; simp; omega), q1]
      have hTl : (T0 ++ [((j : Int), up)]).length = T0.length + 1 := by simp
      have htlen := HT.out.tk.len
      have hNl : Nr.length ≤ N.length := by rw [HT.out.hN, List.length_append]; omega
      rw [List.length_reverse, hTl] at htlen
      have hT0l : T0.length ≤ 10000 := by have := HSZ.out; omega
      have htC : T0.length + 1 ≤ tC ∧ tC ≤ maxLen := by
        rcases hrow.2 with ⟨_, h0⟩ | ⟨g', cap, cur, e, _, _, hn, hm, _⟩
        · simp at h0
        · injection e with _ _ e3; rw [e3]; exact ⟨by simpa using hn, hm⟩
      obtain ⟨htC1, htC2⟩ := htC
      unfold maxLen at htC2
      have HCUT := Lib.hid hcut
      have HTKX := Lib.hid htk
      have HX := Lib.hid hx
      rw [hTl] at HT ⊢
      clear hrow hcut htk q0 q1 htlen hTl
      go_upto_region 9 with fail
      obtain ⟨W2, hW2⟩ : ∃ W2, wr.alloc (.cells #[.int .i64 j, .int .i64 up] 81) = W2 := ⟨_, rfl⟩
      have hb2 : Below wr.heap.size wr W2 := by rw [← hW2]; exact (Below.refl _ wr).alloc (Nat.le_refl _) _
      have hx2 : W2.heap[wr.heap.size]? = some (.cells #[.int .i64 j, .int .i64 up] 81 (0, 0)) := by rw [← hW2]; exact heap_alloc_new wr _
      have m2 := HCUT.out.below hb2
      rw [hW2]
      obtain ⟨B, hBz⟩ : ∃ B, wr.heap.size = B := ⟨_, rfl⟩
      have hgB : g < B := by omega
      have hDB : ∀ k, DB D2 v2 ms k → k < B := fun k hk => by have := (HCUT.out.d2.in_ k hk).2; omega
      rw [hBz] at hx2 ⊢
      obtain ⟨xa, xc, hxk⟩ := own_slice (m2.d1.kids j x HX.out)
      have hjl := (List.getElem?_eq_some_iff.1 HX.out).1
      have hcs : x.cs.toArray = #[.int .i64 x.kind, .int .i64 x.space, .string x.name, .string x.data, .slice x.aA x.attrs.length x.ac, .string x.pub, .string x.sys, .int .i64 x.up, .slice xa x.kids.length xc, .int .i64 x.inner] := by unfold Nd.cs; rw [hxk]
      obtain ⟨w3, hw3⟩ : ∃ w3, W2.drew = w3 := ⟨_, rfl⟩
      have hb3 : Below W2.heap.size W2 w3 := by rw [← hw3]; exact (Below.refl _ W2).drew
      have m3 := m2.below hb3
      have hx3 := (hb3.block B (Array.getElem?_eq_some_iff.1 hx2).1).trans hx2
      obtain ⟨x0', x1', x2', x3', x4', x5', x6', x7', x8', x9'⟩ := eq_none m3.d1 HX.out
      rw [hxk] at x8'
      have c1 := m3.d1.cells.1
      have e0 : w3.cell? ⟨B, 0, none⟩ = some (.int .i64 j) := by rw [cell_of_row _ _ _ _ _ _ hx3]; rfl
      have kad := add_any x m3.d2 (Nat.le_trans m3.bl m3.fr.size) (by have := HB.out.2; omega) (m3.d1.atr HX.out).1 (fun e => ((m3.d1.atr HX.out).2.1 e).1) (HAT.out x (List.mem_of_getElem? HX.out))
      rw [hcs] at kad
      have KAD := Lib.hid kad
      have M3 := Lib.hid m3
      have HX3 := Lib.hid hx3
      have HDB := Lib.hid hDB
      have dneg : ((ms.length : Int) == -1) = false := by rw [beq_eq_false_iff_ne]; omega
      clear hb2 m2 hx2 hxk hcs kad m3 hx3 hb3 hDB ct0 ct1 hW2
      go_still_tail 9, (by kernel_rfl)
      change wpList _ _ _ _ _ W2.drew
      rw [hw3]
      clear x0' x1' x2' x3' x4' x5' x6' x7' x8' x9' c1 e0
      go_wp2_with fail
      refine KAD.out.mono ?_
      rintro e W4 ⟨rfl, A', c', hadd⟩
      have hx4 : W4.heap[B]? = some (.cells #[.int .i64 j, .int .i64 up] 81 (0, 0)) := by
        obtain ⟨_, _, hf, _⟩ := hadd
        exact (hf.block B (Array.getElem?_eq_some_iff.1 HX3.out).1 (fun hk => by have := HDB.out B hk; omega)).trans HX3.out
      obtain ⟨v4, m4⟩ := M3.out.adds hadd
      have b0 : W4.cell? ⟨B, 0, none⟩ = some (.int .i64 j) := by rw [cell_of_row _ _ _ _ _ _ hx4]; rfl
      have b1 : W4.cell? ⟨B, 1, none⟩ = some (.int .i64 up) := by rw [cell_of_row _ _ _ _ _ _ hx4]; rfl
      have hmA : w.heap.size ≤ (W4.alloc (.cells #[.int .i64 ms.length, .int .i64 up] 81)).heap.size := by rw [World.size_alloc]; have := m4.fr.size; omega
      have hMl : (mkS M).length + 1 ≤ 10000000 := by rw [mkS_len]; have := HB.out.1; omega
      have M4 := Lib.hid m4
      have HX4 := Lib.hid hx4
      have hmB : ∀ k, (Value.slice mA (mkS M).length mC).ownBlock = some k → k < B := fun k e => by have := (HCUT.out.ma.lt k e).2; omega
      have hxf : ∀ w5, (W4.alloc (.cells #[.int .i64 ms.length, .int .i64 up] 81)).grownBy w5 (Value.slice mA (mkS M).length mC).ownBlock → w5.heap[B]? = some (.cells #[.int .i64 j, .int .i64 up] 81 (0, 0)) := fun w5 hg => (hg.block B (by rw [World.size_alloc]; have := (Array.getElem?_eq_some_iff.1 hx4).1; omega) (fun e => by have := hmB _ e.symm; omega)).trans ((Below.heap_alloc _ _ _ (Array.getElem?_eq_some_iff.1 hx4).1).trans hx4)
      have HXF := Lib.hid hxf
      have HMA := Lib.hid hmA
      have HML := Lib.hid hMl
      clear hadd m4 hx4 hmA hMl KAD M3 HX3 HDB hmB hxf
      go_wp2_with (at_builtin; refine wpList_append_stg rfl rfl w.heap.size (.slice mA (mkS M).length mC) (mkS M) rfl (M4.out.ma.alloc _) _ (ms.length : Int) up rfl (heap_alloc_new _ _) HML.out HMA.out ?_; intro v5 w5 ho5 hg5 hl5; obtain ⟨p0, p1⟩ := box2 (HXF.out w5 hg5); obtain ⟨mA5, mC5, rfl⟩ := own_slice ho5; have HO5 := Lib.hid ho5; have HG5 := Lib.hid hg5; have HL5 := Lib.hid hl5; clear ho5 hg5 hl5 b0 b1)
      have hx5 := HXF.out w5 HG5.out
      have hsn := mkS_snoc M (ms.length, up)
      have m5 := M4.out.made (M' := M ++ [(ms.length, up)]) (mv' := .slice mA5 ((mkS M).length + 1) mC5) (Y := w5) (by rw [hsn]; have := HO5.out; simpa using this) ((Frm.alloc _ W4 _).trans (Frm.grown HG5.out (fun k e => e)))
        (by rw [slice_blk mA5 ((mkS M).length + 1) (mkS M ++ [((ms.length : Int), up)]).length mC5]; rcases HL5.out with e | e; exact .inl e; exact .inr ⟨_, e, by rw [World.size_alloc]; omega⟩)
      obtain ⟨MS, hMS⟩ : ∃ Z, ms ++ nwN ms.length x A' c' = Z := ⟨_, rfl⟩
      rw [hMS] at m5
      have hdis : ∀ k, DB D1 (.slice (some ⟨G1, 0, none⟩) ns.length ca1) ns k → (Value.slice (some ⟨g, 0, none⟩) T0.length tC).ownBlock ≠ some k := fun k hk e => by have h8 := m5.l1 k hk; have := (m5.td.lt k e).1; omega
      have hzb := m5.fr.size
      have KI1 := Lib.hid (inner_any (j : Int) w5 m5.d1)
      have KI2 := Lib.hid (inner_any (ms.length : Int) w5 m5.d2)
      have hnx := tk_next HCN.out HX.out HTKX.out A' c'
      rw [hMS] at hnx
      obtain ⟨L', N', hLr, hNr, htk'⟩ := hnx
      have htl := htk'.len
      have hNl' : N'.length ≤ N.length := by rw [HT.out.hN, hNr, List.length_append, List.length_append]; omega
      have hsz8 := HSZ.out
      simp only [List.length_append, itm, List.length_map, List.length_reverse] at htl
      have KST := Lib.hid (stk_any w.heap.size (.slice (some ⟨g, 0, none⟩) T0.length tC) T0 (innN ns j) (innN MS ms.length) w5 m5.d1 m5.td hzb hdis (fun c hc => (HGD.out.kd _ c hc).1) (by omega))
      have M5 := Lib.hid m5
      have HX5 := Lib.hid hx5
      have HDIS := Lib.hid hdis
      have HTK' := Lib.hid htk'
      have HLr := Lib.hid hLr
      have HNr := Lib.hid hNr
      have HMSE := Lib.hid hMS
      have HTL := Lib.hid htl
      have HNL := Lib.hid hNl'
      clear hx5 hsn m5 hdis htk' hLr hNr hMS htl hNl' hsz8 HO5 HG5 HL5 HXF HX4 M4 HMA HML hzb
      refine KI1.out.mono ?_
      rintro e w6 ⟨rfl, hw⟩
      rw [hw]
      clear hw w6 KI1
      go_wp2_with fail
      refine KI2.out.mono ?_
      rintro e w6 ⟨rfl, hw⟩
      rw [hw]
      clear hw w6 KI2
      go_wp2_with fail
      refine KST.out.mono ?_
      rintro e w6 ⟨tv6, rfl, ho6, hf6, hb6⟩
      obtain ⟨TT1, hT1⟩ : ∃ Z, T0 ++ itm (kdN ns (innN ns j)).reverse (innN MS ms.length) = Z := ⟨_, rfl⟩
      rw [hT1] at ho6
      obtain ⟨tA6, tC6, rfl⟩ := own_slice ho6
      have m6 := M5.out.todo ho6 hf6 hb6
      have hx6 : w6.heap[B]? = some (.cells #[.int .i64 j, .int .i64 up] 81 (0, 0)) := (hf6.block B (Array.getElem?_eq_some_iff.1 HX5.out).1 (fun e => by have e2 : some g = some B := e; injection e2 with e2; omega)).trans HX5.out
      obtain ⟨d0, d1⟩ := box2 hx6
      have hdis6 : ∀ k, DB D1 (.slice (some ⟨G1, 0, none⟩) ns.length ca1) ns k → (Value.slice tA6 TT1.length tC6).ownBlock ≠ some k := fun k hk e => by have h8 := m6.l1 k hk; have := (m6.td.lt k e).1; omega
      have hkx : kdN ns (j : Int) = x.kids := by unfold kdN; rw [atN_some HX.out]
      have hT1l : TT1.length = T0.length + (kdN ns (innN ns j)).length := by rw [← hT1, List.length_append]; unfold itm; simp
      have KST2 := Lib.hid (stk_any w.heap.size (.slice tA6 TT1.length tC6) TT1 (j : Int) (ms.length : Int) w6 m6.d1 m6.td m6.fr.size hdis6 (fun c hc => (HGD.out.kd _ c hc).1) (by rw [hkx]; have := HTL.out; have := HNL.out; have := HSZ.out; omega))
      have M6 := Lib.hid m6
      have HT1 := Lib.hid hT1
      have HKX := Lib.hid hkx
      clear p0 p1 KST ho6 hf6 hb6 m6 hx6 hdis6 hT1 hkx hT1l M5 HX5 HDIS
      go_wp2_with fail
      refine KST2.out.mono ?_
      rintro e w7 ⟨tv7, rfl, ho7, hf7, hb7⟩
      obtain ⟨TT2, hT2⟩ : ∃ Z, TT1 ++ itm (kdN ns (j : Int)).reverse (ms.length : Int) = Z := ⟨_, rfl⟩
      rw [hT2] at ho7
      obtain ⟨tA7, tC7, rfl⟩ := own_slice ho7
      have m7 := M6.out.todo ho7 hf7 hb7
      have hrev : TT2.reverse = itm x.kids ms.length ++ (itm (kdN ns (innN ns j)) (innN MS ms.length) ++ T0.reverse) := by
        rw [← hT2, ← HT1.out, HKX.out]
        unfold itm
        simp
      have heq := HT.out.eq.push x A' c'
      rw [HMSE.out] at heq
      have hfin : T1 b1 D1 (.slice (some ⟨G1, 0, none⟩) ns.length ca1) q1 ns b2 D2 q2 w v20 ms0 L N (.slice mA5 ((mkS M).length + 1) mC5) (.slice tA7 TT2.length tC7) w7 TT2 (M ++ [(ms.length, up)]) MS (N1 ++ nwZ ms.length x) v4 L' N' :=
        ⟨m7, by rw [hrev]; exact HTK'.out, by rw [HT.out.hL, HLr.out]; simp, by rw [HT.out.hN, HNr.out]; simp, heq⟩
      have hdl : docLenT D2 wr = ms.length := HT.out.tm.d2.lenT
      have hdl7 : docLenT D2 w7 = MS.length := m7.d2.lenT
      have hMSl : MS.length = ms.length + (nwN ms.length x A' c').length := by rw [← HMSE.out, List.length_append]
      have hgrow : ms.length < MS.length ∧ MS.length ≤ ms0.length + N.length := by
        have h1 := heq.len
        have h2 : N = (N1 ++ nwZ ms.length x) ++ N' := by rw [HT.out.hN, HNr.out]; simp
        have h3 := congrArg List.length h2
        rw [List.length_append] at h3
        rw [nw_len] at hMSl
        split at hMSl <;> omega
      have hMl2 : (M ++ [(ms.length, up)]).length ≤ 10000 ∧ MS.length ≤ 10000 := by
        have h4 : L = (M ++ [(ms.length, up)]) ++ L' := by rw [HT.out.hL, HLr.out]; simp
        have h5 := congrArg List.length h4
        rw [List.length_append] at h5
        have h6 := HTK.out.len.2
        have := HSZ.out
        omega
      have HFIN := Lib.hid hfin
      have HML2 := Lib.hid hMl2
      have HMEAS : Hid (20000 - docLenT D2 w7 < 20000 - docLenT D2 wr) := Lib.hid (by rw [hdl, hdl7]; have := HML2.out; have := HB.out; omega)
      clear d0 d1 ho7 hf7 hb7 m7 hrev heq hfin hdl hdl7 hMSl hgrow hMl2 KST2 M6
      go_wp2
      go_roundw
      case rel => exact ⟨TT2, M ++ [(ms.length, up)], MS, N1 ++ nwZ ms.length x, v4, L', N', mA5, mC5, tA7, tC7, by rw [mkS_len, mkS_len, List.length_append]; rfl, rfl, HFIN.out, HML2⟩
      case measure => exact HMEAS.out
end
end Go.Proofs.Ytodlcfhkiilpgaa
