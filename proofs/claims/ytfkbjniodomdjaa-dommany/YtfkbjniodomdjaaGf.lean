/- The contract of Out. -/
import Derived.Test.YtfkbjniodomdjaaGe
namespace Go.Proofs.Ytfkbjniodomdjaa
open Go.RowKit Go.Shelf Go.Lib

theorem setK_len (ns : List Nd) (i : Nat) (v : Value) (ks : List Int) : (setK ns i v ks).length = ns.length := by
  unfold setK
  cases ns[i]? <;> simp
theorem setU_len (ns : List Nd) (i : Nat) (u : Int) : (setU ns i u).length = ns.length := by
  unfold setU
  cases ns[i]? <;> simp
section
variable {base D : Nat} {v : Value} {qk : Bool} {ns : List Nd}
/-- the cells of a node's place and kids, in whatever world a tree lies -/
theorem DocM.node {g c i : Nat} {x : Nd} {W : World} (h : DocM base D (.slice (some ⟨g, 0, none⟩) ns.length c) qk ns W) (hx : ns[i]? = some x) : W.cell? ⟨g, i * 10 + 7, none⟩ = some (.int .i64 x.up) ∧ W.cell? ⟨g, i * 10 + 8, none⟩ = some x.kv ∧ W.frozen? ⟨g, i * 10 + 7, none⟩ = false ∧ W.frozen? ⟨g, i * 10 + 8, none⟩ = false :=
  ⟨h.cell hx (by omega), h.cell hx (by omega), h.row.frozenAt _, h.row.frozenAt _⟩
set_option maxHeartbeats 2000000 in
theorem out_any (n : Int) (W : World) (h : DocM base D v qk ns W) : Calls Try.prog 28 #[.pointer (some ⟨D, 0, none⟩), .int .i64 n] W fun e W' => e = .returned (.tuple #[]) ∧ ∃ v', Trnd base D v qk ns (outP ns n v') W W' := by
  have KH := Lib.hid (has_any n W h)
  cases hn : inN ns n with
  | false =>
    rw [hn] at KH
    have HT : Hid (Trnd base D v qk ns (outP ns n v) W W) := Lib.hid (by unfold outP; rw [hn]; exact Trnd.refl h)
    clear h hn
    go_enter Try.func28, Try.ntmps28
    go_wp2_with fail
    refine KH.out.mono ?_
    rintro e w1 ⟨rfl, rfl⟩
    go_wp2
    refine bodyPost_ret (results_none rfl _ _ _) rfl ?_
    exact ⟨rfl, v, HT.out⟩
  | true =>
    rw [hn] at KH
    obtain ⟨i, x, rfl, hx⟩ := inN_at hn
    have hil := (List.getElem?_eq_some_iff.1 hx).1
    obtain ⟨Av, c, hv, hle, hmx, hgv⟩ := h.sl
    obtain ⟨g, rfl, hbg, hgl⟩ := hgv (by omega)
    subst hv
    obtain ⟨c0, _, _⟩ := h.cells
    obtain ⟨c7, _, f7, _⟩ := h.node hx
    have hup : atN ns (i : Int) Nd.up (-1) = x.up := atN_some hx
    have KK := kids_any x.up W h
    obtain ⟨A, cK, e1, hKle, hKmx, _, hr, ho⟩ := kids_form x.up h
    rw [e1] at KK ho
    have KI := index_any (i : Int) A cK (kdN ns x.up) W hr hKle hKmx
    have hout : ∀ v', outP ns (i : Int) v' = setU (if 0 ≤ Lib.idxOf (kdN ns x.up) (i : Int) then setK ns x.up.toNat v' ((kdN ns x.up).eraseIdx (Lib.idxOf (kdN ns x.up) (i : Int)).toNat) else ns) i (-1) := fun v' => by
      unfold outP outI
      rw [hn, hup, if_pos rfl, Int.toNat_natCast]
    have HOUT := Lib.hid hout
    have hgI : (i : Int) * 10 = ((i * 10 : Nat) : Int) := by omega
    have HKK := Lib.hid KK
    rcases idx_cases (kdN ns x.up) (i : Int) with hi | ⟨k, hi, hk⟩
    · rw [hi] at KI
      have HKI := Lib.hid KI
      have HT := Lib.hid (h.up_ hx (-1))
      have HI := Lib.hid hi
      clear h hn hx hup KK e1 hr ho KI hout hi hgv
      go_enter Try.func28, Try.ntmps28
      go_wp2_with fail
      refine KH.out.mono ?_
      rintro e w1 ⟨rfl, rfl⟩
      go_wp2_with fail
      refine HKK.out.mono ?_
      rintro e w1 ⟨rfl, rfl⟩
      go_wp2_with fail
      refine HKI.out.mono ?_
      rintro e w1 ⟨rfl, rfl⟩
      go_wp2
      go_end0
      refine ⟨rfl, .slice none 0 0, ?_⟩
      rw [HOUT.out, HI.out, if_neg (by decide)]
      exact HT.out
    · rw [hi] at KI
      have HKI := Lib.hid KI
      have HI := Lib.hid hi
      have hup2 : inN ns x.up = true := by
        cases hq : inN ns x.up with
        | true => rfl
        | false => unfold kdN at hk; rw [atN_none hq] at hk; simp at hk
      obtain ⟨p, y, hpu, hy⟩ := inN_at hup2
      have hkd : kdN ns x.up = y.kids := by rw [hpu]; exact atN_some hy
      have hkv : atN ns x.up Nd.kv (.slice none 0 0) = y.kv := by rw [hpu]; exact atN_some hy
      rw [hkv] at e1
      rw [hkd] at e1 ho hk HKK HKI HOUT HI
      rw [hpu] at c7 HKK HOUT
      have hkl := (List.getElem?_eq_some_iff.1 hk).1
      have hpl := (List.getElem?_eq_some_iff.1 hy).1
      obtain ⟨_, c8, _, f8⟩ := h.node hy
      rw [e1] at c8
      have hwr : IntKind.i64.wrap ((k : Int) + 1) = (k : Int) + 1 := by unfold maxLen at hKmx; have h1 : (kdN ns x.up).length = y.kids.length := by rw [hpu]; unfold kdN; rw [atN_some hy]
                                                                        rw [h1] at hKle; rw [IntKind.wrap_i64]; omega
      have KD := delI_any (w := W.drew) (own_keep ho (Below.refl _ W).drew) hkl
      rw [← hwr] at KD
      have HKD := Lib.hid KD
      clear KD hwr
      have H := Lib.hid h
      have HX := Lib.hid hx
      have HY := Lib.hid hy
      have HE1 := Lib.hid e1
      have HUP := Lib.hid hpu
      have hk0 : decide ((0 : Int) ≤ (k : Int)) = true := decide_eq_true (by omega)
      clear h hn hx hup KK e1 hr ho KI hout hi hk hkd hkv hup2 hy hpu hgv
      go_enter Try.func28, Try.ntmps28
      go_wp2_with fail
      refine KH.out.mono ?_
      rintro e w1 ⟨rfl, rfl⟩
      go_wp2_with fail
      refine HKK.out.mono ?_
      rintro e w1 ⟨rfl, rfl⟩
      go_wp2_with fail
      refine HKI.out.mono ?_
      rintro e w1 ⟨rfl, rfl⟩
      go_wp2_with fail
      have FX := Lib.hid (fun (w2 : World) (hg : w1.drew.grownBy w2 (Value.slice A y.kids.length cK).ownBlock) => show w2.cell? ⟨D, 0, none⟩ = some (.slice (some ⟨g, 0, none⟩) ns.length c) ∧ w2.frozen? ⟨g, p * 10 + 8, none⟩ = false ∧ w2.cell? ⟨g, p * 10 + 8, none⟩ = some (.slice A y.kids.length cK) by
        have hk := H.out.kids p y HY.out
        rw [HE1.out] at hk
        have hD : w2.heap[D]? = w1.heap[D]? := hg.block D H.out.lt (fun e => Ytfkbjniodomdjaa.row_neD hk H.out.hd (by decide) e.symm)
        have hG : w2.heap[g]? = w1.heap[g]? := hg.block g hgl (fun e => rows_neN hk H.out.row (by decide) g e.symm rfl)
        refine ⟨(World.cell?_of_block (a := ⟨D, 0, none⟩) hD).trans c0, ?_, (World.cell?_of_block (a := ⟨g, p * 10 + 8, none⟩) hG).trans c8⟩
        have := f8
        unfold World.frozen? at this ⊢
        rw [hG]
        exact this)
      go_region_law (first | (go_simp; go_at_call 65; refine HKD.out.mono ?_; rintro e w2 ⟨v2, rfl, ho2, hg2, hb2⟩; obtain ⟨A2, c2, hv2⟩ := own_slice ho2; subst hv2; obtain ⟨cD2, cF2, cE2⟩ := FX.out w2 hg2))
      all_goals
        have hmap : (y.kids.map (Value.int .i64)).eraseIdx k = (y.kids.eraseIdx k).map (Value.int .i64) := by simp [List.eraseIdx_eq_take_drop_succ, List.map_take, List.map_drop]
        have hlen : (y.kids.eraseIdx k).length = y.kids.length - 1 := List.length_eraseIdx_of_lt hkl
        have ho3 : w2.ownsRow base 3 1 (.slice A2 (y.kids.length - 1) c2) (y.kids.eraseIdx k).length ((y.kids.eraseIdx k).map (Value.int .i64)) := by rw [hlen, ← hmap]; exact ho2
        have hg1 : w1.grownBy w2 y.kv.ownBlock := by rw [HE1.out]; exact grown_trans (grown_drew w1 _) hg2
        have T1 := H.out.kids_ (v' := .slice A2 (y.kids.length - 1) c2) (ks := y.kids.eraseIdx k) HY.out hg1 ho3 (fun q e => .inl (by rw [HE1.out, ← hb2]; exact e))
        obtain ⟨W3, hW3⟩ : ∃ W3, w2.setCell ⟨g, p * 10 + 8, none⟩ (.slice A2 (y.kids.length - 1) c2) = W3 := ⟨_, rfl⟩
        rw [hW3] at T1
        obtain ⟨ns1, hns1⟩ : ∃ ns1, setK ns p (.slice A2 (y.kids.length - 1) c2) (y.kids.eraseIdx k) = ns1 := ⟨_, rfl⟩
        have hl1 : ns1.length = ns.length := by rw [← hns1]; exact setK_len _ _ _ _
        rw [hns1] at T1
        have h1 := T1.1
        rw [← hl1] at h1
        obtain ⟨x1, hx1⟩ : ∃ x1, ns1[i]? = some x1 := ⟨_, List.getElem?_eq_getElem (by omega)⟩
        obtain ⟨cD3, _, _⟩ := h1.cells
        obtain ⟨_, _, f73, _⟩ := h1.node hx1
        have T2 := h1.up_ hx1 (-1)
        rw [hl1] at T2 cD3
        have T3 := Lib.hid (T1.trans T2)
        have HNS := Lib.hid hns1
        clear T1 T2 h1 hx1 ho2 ho3 hg1 hg2 hb2 hmap hlen cD2 cF2 cE2 HKD FX H c0 c7 c8 f7 f8 KH HKI HKK hns1 hl1
        go_wp2
        go_end0
        refine ⟨rfl, .slice A2 (y.kids.length - 1) c2, ?_⟩
        rw [HOUT.out, HI.out, if_pos (by omega), Int.toNat_natCast, Int.toNat_natCast, HNS.out]
        exact T3.out
end
end Go.Proofs.Ytfkbjniodomdjaa
