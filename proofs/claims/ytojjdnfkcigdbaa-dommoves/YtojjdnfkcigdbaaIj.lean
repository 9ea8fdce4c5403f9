/- A node taken out of its place, in what the laws of layer 8 keep. -/
import Derived.Test.YtojjdnfkcigdbaaJoin6
import Derived.Test.YtojjdnfkcigdbaaJoin12
namespace Go.Proofs.Ytojjdnfkcigdbaa
open Go.RowKit Go.Shelf Go.Lib
attribute [local go_sem] Oper.semAt_some

section
variable {base : Nat} {v : Value} {os os' os'' : List Ow} {W W' W'' : World}
theorem TrO.refl (h : OwM base v os W) : TrO base v os os W W := ⟨h, Frm.refl _ _, fun _ h => .inl h⟩
theorem TrO.trans (h1 : TrO base v os os' W W') (h2 : TrO base v os' os'' W' W'') : TrO base v os os'' W W'' :=
  ⟨h2.1, h1.2.1.trans h2.2.1, fun k hk => by
    rcases h2.2.2 k hk with h | h
    · exact h1.2.2 k h
    · exact .inr (Nat.le_trans h1.2.1.size h)⟩
theorem TrO.ofBelow (h : OwM base v os W) (hb : Below W.heap.size W W') : TrO base v os os W W' := ⟨h.below hb, Frm.below hb, fun _ h => .inl h⟩
theorem OwM.upd {i j : Nat} {x x' : Ow} {g c : Nat} {u : Value} (h : OwM base (.slice (some ⟨g, 0, none⟩) os.length c) os W) (hx : os[i]? = some x) (hj : j < 6) (hc : x'.cs = x.cs.set j u) (hk : W.ownsRow base 3 1 x'.kv x'.pl.kids.length (x'.pl.kids.map (Value.int .i64))) :
    OwM base (.slice (some ⟨g, 0, none⟩) os.length c) (os.set i x') (W.setCell ⟨g, i * 6 + j, none⟩ u) ∧ Frm (fun k => (Value.slice (some ⟨g, 0, none⟩) os.length c).ownBlock = some k) W (W.setCell ⟨g, i * 6 + j, none⟩ u) := by
  have hil := (List.getElem?_eq_some_iff.1 hx).1
  have hf : Frm (fun k => k = g) W (W.setCell ⟨g, i * 6 + j, none⟩ u) := Frm.set u rfl
  refine ⟨⟨?_, fun m y hy => ?_⟩, hf.mono (fun k e => by rw [e]; rfl)⟩
  · rw [List.length_set, cellsO_set os i j x x' u hx hj hc]
    exact own_turnN h.row rfl _ u
  · by_cases e : m = i
    · subst e
      rw [List.getElem?_set_self hil] at hy
      cases hy
      exact hf.own hk (fun k e e2 => rows_neN hk h.row (by decide) k e (by rw [e2]; rfl))
    · rw [List.getElem?_set_ne (fun h => e h.symm)] at hy
      exact hf.own (h.kids m y hy) (fun k e e2 => rows_neN (h.kids m y hy) h.row (by decide) k e (by rw [e2]; rfl))
theorem OB.set {i : Nat} {x x' : Ow} {B : Nat} (hx : os[i]? = some x) (hk : ∀ k, x'.kv.ownBlock = some k → x.kv.ownBlock = some k ∨ B ≤ k) : ∀ k, OB v (os.set i x') k → OB v os k ∨ B ≤ k := by
  have hil := (List.getElem?_eq_some_iff.1 hx).1
  rintro k (e | ⟨m, y, hy, e⟩)
  · exact .inl (.inl e)
  · by_cases em : m = i
    · subst em
      rw [List.getElem?_set_self hil] at hy
      cases hy
      rcases hk k e with h | h
      · exact .inl (.inr ⟨m, x, hx, h⟩)
      · exact .inr h
    · rw [List.getElem?_set_ne (fun h => em h.symm)] at hy
      exact .inl (.inr ⟨m, y, hy, e⟩)
theorem setO_pl {i : Nat} {x x' : Ow} {f : Pl → Pl} (hx : os[i]? = some x) (hf : x'.pl = f x.pl) : (os.set i x').map Ow.pl = md (os.map Ow.pl) i f := by
  unfold md
  rw [List.getElem?_map, hx, List.map_set, hf]
  rfl
set_option maxHeartbeats 2000000 in
theorem lout_any (i : Nat) (x : Ow) (W : World) (h : OwM base v os W) (ht : Tr (os.map Ow.pl)) (hx : os[i]? = some x) (hl : os.length ≤ 1000000) :
    Calls Try.prog 39 #[v, .int .i64 i] W fun e W' => e = .returned (.tuple #[]) ∧ ∃ os', os'.map Ow.pl = outQ (os.map Ow.pl) i ∧ TrO base v os os' W W' := by
  have hil := (List.getElem?_eq_some_iff.1 hx).1
  obtain ⟨Av, c, hv, hle, hmx, hgv⟩ := h.sl
  obtain ⟨g, rfl, hbg, hgl⟩ := hgv (by omega)
  subst hv
  have c3 : W.cell? ⟨g, i * 6 + 3, none⟩ = some (.int .i64 x.pl.up) := h.cell hx (show 3 < 6 by omega)
  have f3 : W.frozen? ⟨g, i * 6 + 3, none⟩ = false := h.row.frozenAt _
  have hx' : (os.map Ow.pl)[i]? = some x.pl := by rw [List.getElem?_map, hx]; rfl
  have hgI : (i : Int) * 6 = ((i * 6 : Nat) : Int) := by omega
  have hup' : pAt (os.map Ow.pl) (i : Int) Pl.up (-1) = x.pl.up := pAt_some hx'
  rcases ht.up i _ hx' with hu | ⟨p, y', hu, hy', hm⟩
  · have HQ : Hid (os.map Ow.pl = outQ (os.map Ow.pl) i) := Lib.hid (by unfold outQ; rw [hup', hu, if_pos (by omega)])
    rw [hu] at c3
    have HR := Lib.hid (TrO.refl h)
    have d0 : decide ((-1 : Int) < 0) = true := by decide
    clear h ht hx hx' hup' hu hgv
    go_enter Try.func39, Try.ntmps39
    go_wp2
    refine bodyPost_ret (results_none rfl _ _ _) rfl ?_
    exact ⟨rfl, os, HQ.out, HR.out⟩
  · obtain ⟨y, hy, hyp⟩ := ow_get rfl hy'
    subst hyp
    have hpl := (List.getElem?_eq_some_iff.1 hy).1
    have c4 : W.cell? ⟨g, p * 6 + 4, none⟩ = some y.kv := h.cell hy (show 4 < 6 by omega)
    have f4 : W.frozen? ⟨g, p * 6 + 4, none⟩ = false := h.row.frozenAt _
    obtain ⟨A1, c1, e1, _, hKle, hA1, hr⟩ := Rd.own (h.kids p y hy)
    have hKmx : c1 ≤ maxLen := by
      rcases (h.kids p y hy).2 with ⟨e2, _⟩ | ⟨_, cap, cur, e2, _, _, _, hm, _⟩
      · rw [e1] at e2; injection e2 with _ _ e2; rw [e2]; exact Nat.zero_le _
      · rw [e1] at e2; injection e2 with _ _ e2; rw [e2]; exact hm
    have hK6 : y.pl.kids.length ≤ 1000000 := by
      have := ht.kids_le hy'
      rw [List.length_map] at this
      omega
    obtain ⟨k, hk, hkg⟩ := idx_mem hm
    have hkl := (List.getElem?_eq_some_iff.1 hkg).1
    have hrd : Rd W.drew .i64 A1 y.pl.kids := hr.below ((Below.refl _ W).drew)
    have KAT := at_any y.pl.kids (i : Int) A1 c1 W.drew hrd hK6
    rw [hk] at KAT
    have KCUT := Lib.hid (cut_any y.pl.kids k A1 c1 W.drew hrd hkl hK6 hKle hKmx)
    replace KAT := Lib.hid KAT
    have HQ : Hid (outQ (os.map Ow.pl) i = md (md (os.map Ow.pl) p (fun z => { z with kids := z.kids.erase (i : Int) })) i (fun z => { z with up := -1 })) := Lib.hid (by
      unfold outQ
      rw [hup', hu, if_neg (by omega), Int.toNat_natCast, Int.toNat_natCast])
    have HER := Lib.hid (show y.pl.kids.eraseIdx k = y.pl.kids.erase (i : Int) from erase_idx (i : Int) y.pl.kids 0 k (by rw [Nat.zero_add]; exact hk))
    rw [hu] at c3
    rw [e1] at c4
    have d0 : decide ((p : Int) < 0) = false := decide_eq_false (by omega)
    have H := Lib.hid h
    have HX := Lib.hid hx
    have HY := Lib.hid hy
    have HE1 := Lib.hid e1
    have hgP : (p : Int) * 6 = ((p * 6 : Nat) : Int) := by omega
    have FX := Lib.hid (fun (w2 : World) (hb : Below W.drew.heap.size W.drew w2) => show w2.frozen? ⟨g, p * 6 + 4, none⟩ = false ∧ w2.cell? ⟨g, p * 6 + 4, none⟩ = some (.slice A1 y.pl.kids.length c1) by
      have hG : w2.heap[g]? = W.heap[g]? := hb.block g hgl
      refine ⟨?_, (World.cell?_of_block (a := ⟨g, p * 6 + 4, none⟩) hG).trans c4⟩
      have := f4
      unfold World.frozen? at this ⊢
      rw [hG]
      exact this)
    clear h ht hx hx' hup' hu hgv hy hy' hm hk hkg hr hrd hA1 e1
    go_enter Try.func39, Try.ntmps39
    go_wp2_with fail
    go_region_law (first
      | (go_simp; go_at_call 40; refine KAT.out.mono ?_; rintro e w1 ⟨rfl, rfl⟩)
      | (go_simp; go_at_call 80; refine KCUT.out.mono ?_; rintro e w2 ⟨v2, rfl, ho2, hb2⟩; obtain ⟨A2, c2, hv2⟩ := own_slice ho2; subst hv2; obtain ⟨cF2, cE2⟩ := FX.out w2 hb2))
    all_goals
      have hb2' : Below W.heap.size W w2 := ((Below.refl _ W).drew).trans hb2
      have h2 := H.out.below hb2'
      have ho3 : w2.ownsRow base 3 1 (.slice A2 (y.pl.kids.eraseIdx k).length c2) (y.pl.kids.eraseIdx k).length ((y.pl.kids.eraseIdx k).map (Value.int .i64)) := own_move ho2 (fun _ _ => rfl) (by show base ≤ W.heap.size; omega)
      obtain ⟨y2, hy2⟩ : ∃ y2, Ow.mk { y.pl with kids := y.pl.kids.eraseIdx k } (.slice A2 (y.pl.kids.eraseIdx k).length c2) = y2 := ⟨_, rfl⟩
      have T1 := h2.upd (x' := y2) (u := .slice A2 (y.pl.kids.eraseIdx k).length c2) HY.out (show 4 < 6 by omega) (by rw [← hy2]; rfl) (by rw [← hy2]; exact ho3)
      have N1 := OB.set (v := .slice (some ⟨g, 0, none⟩) os.length c) (x' := y2) (B := W.heap.size) HY.out (fun q e => .inr (by
        rw [← hy2] at e
        exact (ho2.lt q e).1))
      obtain ⟨W3, hW3⟩ : ∃ W3, w2.setCell ⟨g, p * 6 + 4, none⟩ (.slice A2 (y.pl.kids.eraseIdx k).length c2) = W3 := ⟨_, rfl⟩
      have hp1 : (os.set p y2).map Ow.pl = md (os.map Ow.pl) p (fun z => { z with kids := z.kids.erase (i : Int) }) := setO_pl HY.out (by rw [← hy2, HER.out])
      obtain ⟨os1, hos1⟩ : ∃ os1, os.set p y2 = os1 := ⟨_, rfl⟩
      have hl1 : os1.length = os.length := by rw [← hos1, List.length_set]
      rw [hW3, hos1] at T1
      rw [hos1] at N1 hp1
      obtain ⟨h3, hf3⟩ := T1
      rw [← hl1] at h3
      obtain ⟨x1, hx1⟩ : ∃ x1, os1[i]? = some x1 := ⟨_, List.getElem?_eq_getElem (by omega)⟩
      have c33 : W3.cell? ⟨g, i * 6 + 3, none⟩ = some (.int .i64 x1.pl.up) := h3.cell hx1 (show 3 < 6 by omega)
      have f33 : W3.frozen? ⟨g, i * 6 + 3, none⟩ = false := h3.row.frozenAt _
      obtain ⟨x2, hx2⟩ : ∃ x2, Ow.mk { x1.pl with up := -1 } x1.kv = x2 := ⟨_, rfl⟩
      have T2 := h3.upd (x' := x2) (u := .int .i64 (-1)) hx1 (show 3 < 6 by omega) (by rw [← hx2]; rfl) (by rw [← hx2]; exact h3.kids i x1 hx1)
      have N2 := OB.set (v := .slice (some ⟨g, 0, none⟩) os1.length c) (x' := x2) (B := W.heap.size) hx1 (fun q e => .inl (by rw [← hx2] at e; exact e))
      have hp2 : (os1.set i x2).map Ow.pl = md (os1.map Ow.pl) i (fun z => { z with up := -1 }) := setO_pl hx1 (by rw [← hx2])
      obtain ⟨h4, hf4⟩ := T2
      rw [hl1] at h4 hf4 N2
      have HP2 : Hid ((os1.set i x2).map Ow.pl = outQ (os.map Ow.pl) i) := Lib.hid (by rw [hp2, hp1, HQ.out])
      have HR : Hid (TrO base (.slice (some ⟨g, 0, none⟩) os.length c) os (os1.set i x2) W (W3.setCell ⟨g, i * 6 + 3, none⟩ (.int .i64 (-1)))) := Lib.hid ⟨h4, ((Frm.below hb2').trans hf3).trans hf4, fun q e => by
        rcases N2 q e with e | e
        · exact N1 q e
        · exact .inr e⟩
      clear hb2' h2 ho3 ho2 N1 N2 hp1 hp2 h3 hf3 h4 hf4 hb2 cF2 cE2 FX H hx1 hos1 hl1 hx2 hy2 KAT KCUT c3 c4 f3 f4
      go_wp2
      go_end0
      exact ⟨rfl, os1.set i x2, HP2.out, HR.out⟩
end
end Go.Proofs.Ytojjdnfkcigdbaa
