/- The contract of Put. The contract of Say, where there is room for a node more. -/
import Derived.Test.YtodlcfhkiilpgaaZC
import Derived.Test.YtodlcfhkiilpgaaZB
namespace Go.Proofs.Ytodlcfhkiilpgaa
open Go.RowKit Go.Shelf Go.Lib

section
variable {base D : Nat} {v : Value} {qk : Bool} {ns : List Nd}
def PutPost (base D : Nat) (v : Value) (qk : Bool) (ns : List Nd) (up n before : Int) (W : World) (e : Ending) (W' : World) : Prop :=
  ∃ v1 v2, e = .returned (.int .i64 (putE ns up n before)) ∧ Trnd base D v qk ns (putP ns up n before v1 v2) W W'
theorem PutPost.bad {up n before : Int} {W : World} (h : DocM base D v qk ns W) (hb : putB ns up n before = false) : PutPost base D v qk ns up n before W (.returned (.int .i64 1)) W := by
  refine ⟨v, v, ?_, ?_⟩
  · unfold putE; rw [hb]; rfl
  · unfold putP; rw [hb]; exact Trnd.refl h
set_option maxHeartbeats 4000000 in
theorem put_any (up n before : Int) (W : World) (h : DocM base D v qk ns W) (hl : ns.length ≤ 1000000) (hkd : ∀ x ∈ ns, x.kids.length < 1000000) :
    Calls Try.prog 14 #[.pointer (some ⟨D, 0, none⟩), .int .i64 up, .int .i64 n, .int .i64 before] W (PutPost base D v qk ns up n before W) := by
  have KH := Lib.hid (holds_any up W h)
  have KS := Lib.hid (has_any n W h)
  have KW := Lib.hid (within_any up n W h hl)
  have KP := Lib.hid (dplace_any up before W h)
  have KO := Lib.hid (out_any n W h)
  have BAD := Lib.hid (fun hb => PutPost.bad (up := up) (n := n) (before := before) h hb)
  obtain ⟨bh, hbh⟩ : ∃ b, hldB ns up = b := ⟨_, rfl⟩
  have hbh' : (atN ns up Nd.kind 0 == 1 || atN ns up Nd.kind 0 == 2) = bh := hbh
  rw [hbh'] at KH
  clear hbh'
  cases bh with
  | false =>
    have HB := Lib.hid (BAD.out (by unfold putB; rw [hbh]; rfl))
    clear h hkd hbh KS KW KP KO BAD
    go_enter Try.func14, Try.ntmps14
    go_wp2_with fail
    refine KH.out.mono ?_
    rintro e w1 ⟨rfl, rfl⟩
    go_wp2
    go_ret
    exact HB.out
  | true =>
    cases hn : inN ns n with
    | false =>
      rw [hn] at KS
      have HB := Lib.hid (BAD.out (by unfold putB; rw [hn, hbh]; rfl))
      clear h hkd hbh hn KW KP KO BAD
      go_enter Try.func14, Try.ntmps14
      go_wp2_with fail
      refine KH.out.mono ?_
      rintro e w1 ⟨rfl, rfl⟩
      go_wp2_with fail
      refine KS.out.mono ?_
      rintro e w1 ⟨rfl, rfl⟩
      go_wp2
      go_ret
      exact HB.out
    | true =>
      rw [hn] at KS
      obtain ⟨i, x, rfl, hx⟩ := inN_at hn
      have hil := (List.getElem?_eq_some_iff.1 hx).1
      obtain ⟨Av, c, hv, hle, hmx, hgv⟩ := h.sl
      obtain ⟨g, rfl, hbg, hgl⟩ := hgv (by omega)
      subst hv
      obtain ⟨c0, _, _⟩ := h.cells
      have ck : W.cell? ⟨g, i * 10 + 0, none⟩ = some (.int .i64 x.kind) := h.cell hx (by omega)
      rw [Nat.add_zero] at ck
      have hkn : atN ns (i : Int) Nd.kind 0 = x.kind := atN_some hx
      obtain ⟨kx, hkx⟩ : ∃ k, x.kind = k := ⟨_, rfl⟩
      rw [hkx] at ck hkn
      clear hgv
      by_cases hk1 : kx = 1
      · have d1 : (kx == 1) = true := by rw [hk1]; rfl
        have HB := Lib.hid (BAD.out (by unfold putB; rw [hn, hbh, hkn, d1]; rfl))
        clear h hkd hbh hn hx hkn hkx hk1 KW KP KO BAD
        go_enter Try.func14, Try.ntmps14
        go_wp2_with fail
        refine KH.out.mono ?_
        rintro e w1 ⟨rfl, rfl⟩
        go_wp2_with fail
        refine KS.out.mono ?_
        rintro e w1 ⟨rfl, rfl⟩
        go_wp2
        go_ret
        exact HB.out
      · have d1 : (kx == 1) = false := by rw [beq_eq_false_iff_ne]; exact hk1
        by_cases hbn : before = i
        · have d2 : (before == (i : Int)) = true := by rw [hbn]; simp
          have HB := Lib.hid (BAD.out (by unfold putB; rw [hn, hbh, hkn, d1, d2]; rfl))
          clear h hkd hbh hn hx hkn hkx hk1 hbn KW KP KO BAD
          go_enter Try.func14, Try.ntmps14
          go_wp2_with fail
          refine KH.out.mono ?_
          rintro e w1 ⟨rfl, rfl⟩
          go_wp2_with fail
          refine KS.out.mono ?_
          rintro e w1 ⟨rfl, rfl⟩
          go_wp2
          go_ret
          exact HB.out
        · have d2 : (before == (i : Int)) = false := by rw [beq_eq_false_iff_ne]; exact hbn
          cases hw : withN ns up (i : Int) with
          | true =>
            rw [hw] at KW
            have HB := Lib.hid (BAD.out (by unfold putB; rw [hn, hbh, hkn, d1, d2, hw]; rfl))
            clear h hkd hbh hn hx hkn hkx hk1 hbn hw KP KO BAD
            go_enter Try.func14, Try.ntmps14
            go_wp2_with fail
            refine KH.out.mono ?_
            rintro e w1 ⟨rfl, rfl⟩
            go_wp2_with fail
            refine KS.out.mono ?_
            rintro e w1 ⟨rfl, rfl⟩
            go_wp2_with fail
            refine KW.out.mono ?_
            rintro e w1 ⟨rfl, rfl⟩
            go_wp2
            go_ret
            exact HB.out
          | false =>
            rw [hw] at KW
            have hput : putB ns up (i : Int) before = true := by unfold putB; rw [hn, hbh, hkn, d1, d2, hw]; rfl
            cases hp : plcB ns up before with
            | false =>
              rw [hp] at KP
              have HB : Hid (PutPost base D (.slice (some ⟨g, 0, none⟩) ns.length c) qk ns up (i : Int) before W (.returned (.int .i64 4)) W) := Lib.hid (by
                refine ⟨.slice none 0 0, .slice none 0 0, ?_, ?_⟩
                · unfold putE; rw [hput, hp]; rfl
                · unfold putP; rw [hput, hp]; exact Trnd.refl h)
              clear h hkd hbh hn hx hkn hkx hk1 hbn hw KO BAD hput hp
              go_enter Try.func14, Try.ntmps14
              go_wp2_with fail
              refine KH.out.mono ?_
              rintro e w1 ⟨rfl, rfl⟩
              go_wp2_with fail
              refine KS.out.mono ?_
              rintro e w1 ⟨rfl, rfl⟩
              go_wp2_with fail
              refine KW.out.mono ?_
              rintro e w1 ⟨rfl, rfl⟩
              go_wp2_with fail
              refine KP.out.mono ?_
              rintro e w1 ⟨rfl, rfl⟩
              go_wp2
              go_ret
              exact HB.out
            | true =>
              rw [hp] at KP
              have hupi := hld_in hbh
              obtain ⟨p, y, rfl, hy⟩ := inN_at hupi
              have hpl := (List.getElem?_eq_some_iff.1 hy).1
              have HPUT := Lib.hid hput
              have HP := Lib.hid hp
              have HY := Lib.hid hy
              have HKD := Lib.hid hkd
              have PLC := Lib.hid (fun v1 => plc_out (v := v1) hupi hbn hp)
              clear h hkd hbh hn hx hkn hkx hk1 hbn hw BAD hput hp hy hupi
              go_enter Try.func14, Try.ntmps14
              go_wp2_with fail
              refine KH.out.mono ?_
              rintro e w1 ⟨rfl, rfl⟩
              go_wp2_with fail
              refine KS.out.mono ?_
              rintro e w1 ⟨rfl, rfl⟩
              go_wp2_with fail
              refine KW.out.mono ?_
              rintro e w1 ⟨rfl, rfl⟩
              go_wp2_with fail
              refine KP.out.mono ?_
              rintro e w1 ⟨rfl, rfl⟩
              go_wp2_with fail
              refine KO.out.mono ?_
              rintro e w2 ⟨rfl, v1, hT⟩
              obtain ⟨k, hk, hkl⟩ := PLC.out v1
              obtain ⟨y1, hy1, hyk⟩ := out_kids (n := (i : Int)) (v := v1) HY.out
              have hkd1 : kdN (outP ns (i : Int) v1) (p : Int) = y1.kids := atN_some hy1
              rw [hkd1] at hkl
              obtain ⟨ns1, hns1⟩ : ∃ ns1, outP ns (i : Int) v1 = ns1 := ⟨_, rfl⟩
              have hl1 : ns1.length = ns.length := by rw [← hns1]; exact outP_len _ _ _
              rw [hns1] at hT hk hy1 hkd1
              have hd := hT.1
              rw [← hl1] at hd
              have KP2 := dplace_any (p : Int) before w2 hd
              rw [hk] at KP2
              obtain ⟨pb, hpb⟩ : ∃ b, plcB ns1 (p : Int) before = b := ⟨_, rfl⟩
              rw [hpb] at KP2
              have KP2 := Lib.hid KP2
              obtain ⟨d0, _, _⟩ := hd.cells
              obtain ⟨_, c8, _, f8⟩ := hd.node hy1
              have ho := hd.kids p y1 hy1
              obtain ⟨A1, c1, hv1⟩ := own_slice ho
              rw [hv1] at c8 ho
              have hyl : y1.kids.length < 1000000 := by
                have := HKD.out y (List.mem_of_getElem? HY.out)
                rcases hyk with h | ⟨k', _, h⟩
                · rw [h]; exact this
                · rw [h]; exact Nat.lt_of_le_of_lt (List.length_eraseIdx_le _ _) this
              have hbs : base ≤ w2.heap.size := by have := hd.ge; have := hd.lt; omega
              have hgl2 : g < w2.heap.size := (hd.row.lt g rfl).2
              have hba : Below w2.heap.size w2 (w2.drew.alloc (.cells #[.int .i64 (i : Int)] 3)) := (Below.refl _ w2).drew.alloc (Nat.le_refl _) _
              have KI := Lib.hid (insI_any (base := base) (n := y1.kids.length) (i := k) (x := .int .i64 (i : Int)) (vb := w2.heap.size) (own_keep ho hba) (by simp; omega) (ints_one _) rfl hkl hyl (heap_alloc_new w2.drew _) (fun e => by have := (ho.lt _ e).2; omega))
              have hka : Below w2.heap.size w2 (w2.alloc (.cells #[.int .i64 (i : Int)] 3)) := (Below.refl _ w2).alloc (Nat.le_refl _) _
              have a0 := (hka.cell (p := ⟨D, 0, none⟩) (World.block_lt_of_cell? _ _ d0)).trans d0
              have a8 := (hka.cell (p := ⟨g, p * 10 + 8, none⟩) (World.block_lt_of_cell? _ _ c8)).trans c8
              have HD := Lib.hid hd
              have HY1 := Lib.hid hy1
              have HV1 := Lib.hid hv1
              have HT := Lib.hid hT
              have HNS := Lib.hid hns1
              have HK := Lib.hid hk
              have HKD1 := Lib.hid hkd1
              have HL1 := Lib.hid hl1
              have FX := Lib.hid (fun (w3 : World) (hg : (w2.drew.alloc (.cells #[.int .i64 (i : Int)] 3)).grownBy w3 (Value.slice A1 y1.kids.length c1).ownBlock) => show w3.cell? ⟨D, 0, none⟩ = some (.slice (some ⟨g, 0, none⟩) ns1.length c) ∧ w3.frozen? ⟨g, p * 10 + 8, none⟩ = false ∧ w3.cell? ⟨g, p * 10 + 8, none⟩ = some (.slice A1 y1.kids.length c1) by
                have hk := HD.out.kids p y1 HY1.out
                rw [HV1.out] at hk
                have hD : w3.heap[D]? = w2.heap[D]? := (hg.block D (by have := HD.out.lt; simp; omega) (fun e => Ytodlcfhkiilpgaa.row_neD hk HD.out.hd (by decide) e.symm)).trans (hba.block D HD.out.lt)
                have hG : w3.heap[g]? = w2.heap[g]? := (hg.block g (by simp; omega) (fun e => rows_neN hk HD.out.row (by decide) g e.symm rfl)).trans (hba.block g hgl2)
                refine ⟨(World.cell?_of_block (a := ⟨D, 0, none⟩) hD).trans d0, ?_, (World.cell?_of_block (a := ⟨g, p * 10 + 8, none⟩) hG).trans c8⟩
                have := f8
                unfold World.frozen? at this ⊢
                rw [hG]
                exact this)
              have hgI : (p : Int) * 10 = ((p * 10 : Nat) : Int) := by omega
              rw [hl1] at d0 a0 FX
              have HX0 : Hid (ns1.length = ns.length) := Lib.hid hl1
              clear hT hk hy1 hkd1 hd hns1 hl1 ho hv1 hba hka KH KS KW KP KO PLC HKD hyk hpb
              go_wp2_with fail
              refine KP2.out.mono ?_
              rintro e w9 ⟨rfl, hw9⟩
              rw [hw9]
              clear hw9 w9
              go_wp2_with fail
              go_region_law (first | (go_simp; go_at_call 42; refine KI.out.mono ?_; rintro e w3 ⟨v3, rfl, ho3, hg3, hb3⟩; obtain ⟨A3, c3, hv3⟩ := own_slice ho3; subst hv3; obtain ⟨cD3, cF3, cE3⟩ := FX.out w3 hg3))
              all_goals
                obtain ⟨ks, hks⟩ : ∃ ks, y1.kids.take k ++ (i : Int) :: y1.kids.drop k = ks := ⟨_, rfl⟩
                have hkl2 : ks.length = y1.kids.length + 1 := by rw [← hks]; simp; omega
                have ho4 : w3.ownsRow base 3 1 (.slice A3 (y1.kids.length + 1) c3) ks.length (ks.map (Value.int .i64)) := by
                  rw [hkl2, ← hks, List.map_append, List.map_cons, List.map_take, List.map_drop]
                  exact ho3
                have hg1 : w2.grownBy w3 y1.kv.ownBlock := by
                  rw [HV1.out]
                  exact grown_trans (grown_trans (grown_drew w2 _) (World.grownBy_alloc w2.drew _ _)) hg3
                have T1 := HD.out.kids_ (v' := .slice A3 (y1.kids.length + 1) c3) (ks := ks) HY1.out hg1 ho4 (fun q e => by
                  rcases hb3 with h | h
                  · exact .inl (by rw [HV1.out, ← h]; exact e)
                  · rw [h] at e; simp at e; exact .inr (by omega))
                obtain ⟨W3, hW3⟩ : ∃ W3, w3.setCell ⟨g, p * 10 + 8, none⟩ (.slice A3 (y1.kids.length + 1) c3) = W3 := ⟨_, rfl⟩
                rw [hW3] at T1
                obtain ⟨ns2, hns2⟩ : ∃ ns2, setK ns1 p (.slice A3 (y1.kids.length + 1) c3) ks = ns2 := ⟨_, rfl⟩
                have hl2 : ns2.length = ns1.length := by rw [← hns2]; exact setK_len _ _ _ _
                rw [hns2] at T1
                have h1 := T1.1
                rw [← hl2] at h1
                obtain ⟨x2, hx2⟩ : ∃ x2, ns2[i]? = some x2 := ⟨_, List.getElem?_eq_getElem (by rw [hl2, HX0.out]; exact hil)⟩
                obtain ⟨cD4, _, _⟩ := h1.cells
                obtain ⟨c74, _, f74, _⟩ := h1.node hx2
                have T2 := h1.up_ hx2 (p : Int)
                rw [hl2, HX0.out] at T2 cD4
                rw [HX0.out] at T1
                have T3 := Lib.hid ((HT.out.trans T1).trans T2)
                have HNS2 := Lib.hid hns2
                have HKS := Lib.hid hks
                clear T1 T2 h1 hx2 ho3 ho4 hg1 hg3 hb3 hkl2 cD3 cF3 cE3 HD FX HT KI KP2 d0 a0 a8 c8 f8 c0 ck hns2 hks hl2
                go_wp2
                go_ret
                refine ⟨v1, .slice A3 (y1.kids.length + 1) c3, ?_, ?_⟩
                · unfold putE; rw [HPUT.out, HP.out]; rfl
                · unfold putP
                  rw [HPUT.out, HP.out, Bool.and_self, if_pos rfl, HNS.out, HKD1.out, HK.out, Int.toNat_natCast, Int.toNat_natCast, Int.toNat_natCast, HKS.out, HNS2.out]
                  exact T3.out
end
end Go.Proofs.Ytodlcfhkiilpgaa
namespace Go.Proofs.Ytodlcfhkiilpgaa
open Go.RowKit Go.Shelf Go.Lib

def txN (s : ByteArray) : Nd := ⟨3, 0, ⟨#[]⟩, s, none, [], 0, ⟨#[]⟩, ⟨#[]⟩, 0, .slice none 0 0, [], 0⟩
/-- a node's text that grows -/
def setD (ns : List Nd) (i : Nat) (s : ByteArray) : List Nd := match ns[i]? with
  | some x => ns.set i { x with data := x.data ++ s }
  | none => ns
/-- the node whose text would grow, if there is such a one -/
def sayN (ns : List Nd) (up before : Int) : Option Nat := if 0 < plcN ns up before then
    match (kdN ns up)[(plcN ns up before).toNat - 1]? with
    | some l => if atN ns l Nd.kind 0 == 3 then some l.toNat else none
    | none => none
  else none
/-- what Say leaves, what it answers -/
inductive SayR (ns : List Nd) (up : Int) (s : ByteArray) (before : Int) : List Nd → Int → Prop
  | arg : (inN ns up = false ∨ s.toList = []) → SayR ns up s before ns 1
  | miss : inN ns up = true → s.toList ≠ [] → plcB ns up before = false → SayR ns up s before ns 4
  | grow : (l : Nat) → inN ns up = true → s.toList ≠ [] → plcB ns up before = true → sayN ns up before = some l → SayR ns up s before (setD ns l s) 0
  | new : (A : Option Addr) → (c : Nat) → (v1 v2 : Value) → inN ns up = true → s.toList ≠ [] → plcB ns up before = true → sayN ns up before = none →
      SayR ns up s before (putP (ns ++ [aloneNd (txN s) A c]) up ns.length before v1 v2) (putE (ns ++ [aloneNd (txN s) A c]) up ns.length before)
section
variable {base D : Nat} {v : Value} {qk : Bool} {ns ns' ns'' : List Nd} {W W' W'' : World}
theorem Trnd.adds (h : Trnd base D v qk ns ns' W W') : Adds base D v qk ns ns' W W' := ⟨v, h⟩
theorem Adds.trans (h1 : Adds base D v qk ns ns' W W') (h2 : ∀ v', DocM base D v' qk ns' W' → Adds base D v' qk ns' ns'' W' W'') : Adds base D v qk ns ns'' W W'' := by
  obtain ⟨v1, hd, hf, hn⟩ := h1
  obtain ⟨v2, hd2, hf2, hn2⟩ := h2 v1 hd
  exact ⟨v2, hd2, hf.trans' hf2 hn, fun k hk => by
    rcases hn2 k hk with h | h
    · exact hn k h
    · exact .inr (Nat.le_trans hf.size h)⟩
theorem DocM.data_ {i : Nat} {x : Nd} {g c : Nat} (h : DocM base D (.slice (some ⟨g, 0, none⟩) ns.length c) qk ns W) (hx : ns[i]? = some x) (s : ByteArray) :
    Trnd base D (.slice (some ⟨g, 0, none⟩) ns.length c) qk ns (setD ns i s) W (W.setCell ⟨g, i * 10 + 3, none⟩ (.string (x.data ++ s))) := by
  have : setD ns i s = ns.set i { x with data := x.data ++ s } := by unfold setD; rw [hx]
  rw [this]
  exact h.fld (j := 3) (x' := { x with data := x.data ++ s }) hx (by omega) rfl rfl rfl rfl rfl
/-- the place that is found lies within the kids -/
theorem plc_self {ns : List Nd} {up before : Int} (hp : plcB ns up before = true) : ∃ k : Nat, plcN ns up before = (k : Int) ∧ k ≤ (kdN ns up).length := by
  unfold plcN
  unfold plcB at hp
  by_cases h0 : before = -1
  · rw [if_pos h0]
    exact ⟨_, rfl, Nat.le_refl _⟩
  · rw [if_neg h0] at hp ⊢
    have hp := of_decide_eq_true hp
    rcases idx_cases (kdN ns up) before with h | ⟨k, h, hk⟩
    · omega
    · exact ⟨k, h, Nat.le_of_lt (List.getElem?_eq_some_iff.1 hk).1⟩
def SayPost (base D : Nat) (v : Value) (qk : Bool) (ns : List Nd) (up : Int) (s : ByteArray) (before : Int) (W : World) (e : Ending) (W' : World) : Prop :=
  ∃ ns' z, SayR ns up s before ns' z ∧ e = .returned (.int .i64 z) ∧ Adds base D v qk ns ns' W W'
set_option maxHeartbeats 4000000 in
theorem say_any (up : Int) (s : ByteArray) (before : Int) (W : World) (h : DocM base D v qk ns W) (hl : ns.length < 10000) (hkd : ∀ x ∈ ns, x.kids.length < 1000000) (hz : ∀ x ∈ ns, x.data.size + s.size ≤ 1000000000) :
    Calls Try.prog 15 #[.pointer (some ⟨D, 0, none⟩), .int .i64 up, .string s, .int .i64 before] W (SayPost base D v qk ns up s before W) := by
  have KS := Lib.hid (has_any up W h)
  have KP := Lib.hid (dplace_any up before W h)
  have HRF := Lib.hid (Trnd.refl h).adds
  cases hu : inN ns up with
  | false =>
    rw [hu] at KS
    have HR : Hid (SayR ns up s before ns 1) := Lib.hid (.arg (.inl hu))
    clear h hu KP hkd hz
    go_enter Try.func15, Try.ntmps15
    go_wp2_with fail
    refine KS.out.mono ?_
    rintro e w1 ⟨rfl, rfl⟩
    go_wp2
    go_ret
    exact ⟨_, _, HR.out, rfl, HRF.out⟩
  | true =>
    rw [hu] at KS
    cases hs : s.toList.isEmpty with
    | true =>
      have hse := List.isEmpty_iff.1 hs
      have HR : Hid (SayR ns up s before ns 1) := Lib.hid (.arg (.inr hse))
      clear h hu KP hkd hz
      go_enter Try.func15, Try.ntmps15
      go_wp2_with fail
      refine KS.out.mono ?_
      rintro e w1 ⟨rfl, rfl⟩
      go_wp2
      go_ret
      exact ⟨_, _, HR.out, rfl, HRF.out⟩
    | false =>
      have hse : ¬ s.toList = [] := fun e => by rw [e] at hs; cases hs
      cases hp : plcB ns up before with
      | false =>
        rw [hp] at KP
        have HR : Hid (SayR ns up s before ns 4) := Lib.hid (.miss hu hse hp)
        clear h hu hp hkd hz
        go_enter Try.func15, Try.ntmps15
        go_wp2_with fail
        refine KS.out.mono ?_
        rintro e w1 ⟨rfl, rfl⟩
        go_wp2_with fail
        refine KP.out.mono ?_
        rintro e w1 ⟨rfl, rfl⟩
        go_wp2
        go_ret
        exact ⟨_, _, HR.out, rfl, HRF.out⟩
      | true =>
        rw [hp] at KP
        obtain ⟨p, y, rfl, hy⟩ := inN_at hu
        have hpl := (List.getElem?_eq_some_iff.1 hy).1
        obtain ⟨Av, c, hv, hle, hmx, hgv⟩ := h.sl
        obtain ⟨g, rfl, hbg, hgl⟩ := hgv (by omega)
        subst hv
        have hkdN : kdN ns (p : Int) = y.kids := atN_some hy
        obtain ⟨k, hk, hkl⟩ := plc_self hp
        rw [hkdN] at hkl
        rw [hk] at KP
        have hbs : base ≤ W.heap.size := by have := h.ge; have := h.lt; omega
        have KA0 := add_plain (txN s) h hbs rfl (by omega) (.inl rfl) (fun _ => rfl) (Nat.zero_le _)
        have HU := Lib.hid hu
        have HPB := Lib.hid hp
        have HKD := Lib.hid hkd
        have KA : Hid _ := Lib.hid KA0
        rw [show (txN s).cs.toArray = #[.int .i64 3, .int .i64 0, .string ⟨#[]⟩, .string s, .slice none 0 0, .string ⟨#[]⟩, .string ⟨#[]⟩, .int .i64 0, .slice none 0 0, .int .i64 0] from rfl] at KA
        clear KA0
        cases k with
        | zero =>
          have HSN : Hid (sayN ns (p : Int) before = none) := Lib.hid (by unfold sayN; rw [hk]; rfl)
          clear h hu hp hkd hz hy hk hkdN hgv HRF
          go_enter Try.func15, Try.ntmps15
          go_wp2_with fail
          refine KS.out.mono ?_
          rintro e w1 ⟨rfl, rfl⟩
          go_wp2_with fail
          refine KP.out.mono ?_
          rintro e w1 ⟨rfl, rfl⟩
          go_wp2_with fail
          refine KA.out.mono ?_
          rintro e w2 ⟨rfl, A2, c2, v2, hd2, hf2, hn2⟩
          have KPut := Lib.hid (put_any (p : Int) (ns.length : Int) before w2 hd2 (by simp; omega) (fun x hx => by
            rw [List.mem_append] at hx
            rcases hx with hx | hx
            · exact HKD.out x hx
            · rw [List.mem_singleton] at hx; subst hx; exact Nat.zero_lt_succ _))
          have HA2 : Hid (Adds base D (.slice (some ⟨g, 0, none⟩) ns.length c) qk ns (ns ++ [aloneNd (txN s) A2 c2]) w1 w2 ∧ DocM base D v2 qk (ns ++ [aloneNd (txN s) A2 c2]) w2) := Lib.hid ⟨⟨v2, hd2, hf2, hn2⟩, hd2⟩
          have HF2 := Lib.hid hf2
          have HN2 := Lib.hid hn2
          have dn : ((ns.length : Int) == -1) = false := by rw [beq_eq_false_iff_ne]; omega
          clear hd2 hf2 hn2
          go_wp2_with fail
          refine KPut.out.mono ?_
          rintro e w3 ⟨u1, u2, rfl, hT⟩
          have HT := Lib.hid hT
          clear hT
          go_wp2
          go_ret
          exact ⟨_, _, .new A2 c2 u1 u2 HU.out hse HPB.out HSN.out, rfl, v2, HT.out.1, HF2.out.trans' HT.out.2.1 HN2.out, fun q hq => by
            rcases HT.out.2.2 q hq with h | h
            · exact HN2.out q h
            · exact .inr (Nat.le_trans HF2.out.size h)⟩
        | succ j =>
          obtain ⟨l, hlj⟩ : ∃ l, y.kids[j]? = some l := ⟨_, List.getElem?_eq_getElem (by omega)⟩
          obtain ⟨c0, _, _⟩ := h.cells
          obtain ⟨_, c8, _, _⟩ := h.node hy
          obtain ⟨A, cK, e1, _, hKle, _, hr⟩ := Rd.own (h.kids p y hy)
          rw [e1] at c8
          obtain ⟨b, off, rfl, hb, hcell⟩ := hr.pos (by omega)
          have cj := hcell j (by omega)
          rw [hlj] at cj
          have cj : W.cell? ⟨b, off + j, none⟩ = some (.int .i64 l) := cj
          have KK := Lib.hid (kind_any l W h)
          obtain ⟨kz, hkz⟩ : ∃ k, atN ns l Nd.kind 0 = k := ⟨_, rfl⟩
          rw [hkz] at KK
          have dj : decide ((0 : Int) < ((j + 1 : Nat) : Int)) = true := decide_eq_true (by omega)
          have dj' : decide ((0 : Int) < (j : Int) + 1) = true := decide_eq_true (by omega)
          have hjk : j < y.kids.length := by omega
          have hj6 : j < 1000000 := by have := hkd y (List.mem_of_getElem? hy); omega
          by_cases h3 : kz = 3
          · have d3 : (kz == 3) = true := by rw [h3]; rfl
            have hlin : inN ns l = true := by
              cases hq : inN ns l with
              | true => rfl
              | false => rw [atN_none hq] at hkz; omega
            obtain ⟨q, z, rfl, hzq⟩ := inN_at hlin
            have hql := (List.getElem?_eq_some_iff.1 hzq).1
            have HSN : Hid (sayN ns (p : Int) before = some q) := Lib.hid (by
              unfold sayN
              rw [hk, if_pos (by omega), hkdN, Int.toNat_natCast, Nat.add_sub_cancel, hlj]
              show (if (atN ns (q : Int) Nd.kind 0 == 3) = true then some _ else none) = _
              rw [hkz, d3, if_pos rfl, Int.toNat_natCast])
            have cd : W.cell? ⟨g, q * 10 + 3, none⟩ = some (.string z.data) := h.cell hzq (by omega)
            have fd : W.frozen? ⟨g, q * 10 + 3, none⟩ = false := h.row.frozenAt _
            have HT := Lib.hid (h.data_ hzq s)
            have hzs := hz z (List.mem_of_getElem? hzq)
            clear h hu hp hkd hz hy hk hkdN hgv HRF KA hlj hzq hkz h3 hr hcell e1 hlin
            go_enter Try.func15, Try.ntmps15
            go_wp2_with fail
            refine KS.out.mono ?_
            rintro e w1 ⟨rfl, rfl⟩
            go_wp2_with fail
            refine KP.out.mono ?_
            rintro e w1 ⟨rfl, rfl⟩
            go_wp2_with fail
            refine KK.out.mono ?_
            rintro e w1 ⟨rfl, rfl⟩
            go_wp2
            go_ret
            exact ⟨_, _, .grow q HU.out hse HPB.out HSN.out, rfl, HT.out.adds⟩
          · have d3 : (kz == 3) = false := by rw [beq_eq_false_iff_ne]; exact h3
            have HSN : Hid (sayN ns (p : Int) before = none) := Lib.hid (by
              unfold sayN
              rw [hk, if_pos (by omega), hkdN, Int.toNat_natCast, Nat.add_sub_cancel, hlj]
              show (if (atN ns l Nd.kind 0 == 3) = true then some _ else none) = _
              rw [hkz, d3]; rfl)
            clear h hu hp hkd hz hy hk hkdN hgv HRF hlj hkz h3 hr hcell e1
            go_enter Try.func15, Try.ntmps15
            go_wp2_with fail
            refine KS.out.mono ?_
            rintro e w1 ⟨rfl, rfl⟩
            go_wp2_with fail
            refine KP.out.mono ?_
            rintro e w1 ⟨rfl, rfl⟩
            go_wp2_with fail
            refine KK.out.mono ?_
            rintro e w1 ⟨rfl, rfl⟩
            go_wp2_with fail
            refine KA.out.mono ?_
            rintro e w2 ⟨rfl, A2, c2, v2, hd2, hf2, hn2⟩
            have KPut := Lib.hid (put_any (p : Int) (ns.length : Int) before w2 hd2 (by simp; omega) (fun x hx => by
              rw [List.mem_append] at hx
              rcases hx with hx | hx
              · exact HKD.out x hx
              · rw [List.mem_singleton] at hx; subst hx; exact Nat.zero_lt_succ _))
            have HA2 : Hid (Adds base D (.slice (some ⟨g, 0, none⟩) ns.length c) qk ns (ns ++ [aloneNd (txN s) A2 c2]) w1 w2 ∧ DocM base D v2 qk (ns ++ [aloneNd (txN s) A2 c2]) w2) := Lib.hid ⟨⟨v2, hd2, hf2, hn2⟩, hd2⟩
            have HF2 := Lib.hid hf2
            have HN2 := Lib.hid hn2
            have dn : ((ns.length : Int) == -1) = false := by rw [beq_eq_false_iff_ne]; omega
            clear hd2 hf2 hn2
            go_wp2_with fail
            refine KPut.out.mono ?_
            rintro e w3 ⟨u1, u2, rfl, hT⟩
            have HT := Lib.hid hT
            clear hT
            go_wp2
            go_ret
            exact ⟨_, _, .new A2 c2 u1 u2 HU.out hse HPB.out HSN.out, rfl, v2, HT.out.1, HF2.out.trans' HT.out.2.1 HN2.out, fun q hq => by
              rcases HT.out.2.2 q hq with h | h
              · exact HN2.out q h
              · exact .inr (Nat.le_trans HF2.out.size h)⟩
end
end Go.Proofs.Ytodlcfhkiilpgaa
