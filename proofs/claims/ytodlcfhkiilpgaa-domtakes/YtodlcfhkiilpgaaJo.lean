/- Whether two nodes are the same: what lies in memory meanwhile; slices.EqualFunc over the kids. -/
import Derived.Test.YtodlcfhkiilpgaaJm
import Derived.Deep.RegionHeld3
import Derived.Laws.EntriesVeiled
namespace Go.Proofs.Ytodlcfhkiilpgaa
open Go.RowKit Go.Shelf Go.Lib
attribute [local go_sem] Oper.semAt_some

abbrev capS (E : Nat) : Array Value := #[.pointer (some ⟨E, 0, none⟩), .pointer (some ⟨E + 1, 0, none⟩), .pointer (some ⟨E + 2, 0, none⟩), .pointer (some ⟨E + 3, 0, none⟩)]
/-- two trees, and the four boxes from E on: the trees, how many are left, the closure itself -/
structure VS (b1 D1 : Nat) (v1 : Value) (q1 : Bool) (xs : List Nd) (b2 D2 : Nat) (v2 : Value) (q2 : Bool) (ys : List Nd) (E : Nat) (l : Int) (W : World) : Prop where
  d1 : DocM b1 D1 v1 q1 xs W
  d2 : DocM b2 D2 v2 q2 ys W
  ba : W.heap[E]? = some (.cells #[.pointer (some ⟨D1, 0, none⟩)] 23 (0, 0))
  bb : W.heap[E + 1]? = some (.cells #[.pointer (some ⟨D2, 0, none⟩)] 23 (0, 0))
  bl : W.heap[E + 2]? = some (.cells #[.int .i64 l] 3 (0, 0))
  bs : W.heap[E + 3]? = some (.cells #[.func (.func 59) #[] #[.pointer (some ⟨E, 0, none⟩), .pointer (some ⟨E + 1, 0, none⟩), .pointer (some ⟨E + 2, 0, none⟩), .pointer (some ⟨E + 3, 0, none⟩)]] 75 (0, 0))
  lt1 : ∀ k, DB D1 v1 xs k → k < E
  lt2 : ∀ k, DB D2 v2 ys k → k < E
section
variable {b1 D1 : Nat} {v1 : Value} {q1 : Bool} {xs : List Nd} {b2 D2 : Nat} {v2 : Value} {q2 : Bool} {ys : List Nd} {E : Nat} {l l' : Int} {W W' : World}
theorem VS.turn (h : VS b1 D1 v1 q1 xs b2 D2 v2 q2 ys E l W) (hf : Frm (fun k => k = E + 2) W W') (hl : W'.heap[E + 2]? = some (.cells #[.int .i64 l'] 3 (0, 0))) : VS b1 D1 v1 q1 xs b2 D2 v2 q2 ys E l' W' :=
  ⟨h.d1.keep hf (fun k hk e => by have := h.lt1 k hk; omega), h.d2.keep hf (fun k hk e => by have := h.lt2 k hk; omega),
    (hf.block _ (Array.getElem?_eq_some_iff.1 h.ba).1 (by omega)).trans h.ba, (hf.block _ (Array.getElem?_eq_some_iff.1 h.bb).1 (by omega)).trans h.bb, hl,
    (hf.block _ (Array.getElem?_eq_some_iff.1 h.bs).1 (by omega)).trans h.bs, h.lt1, h.lt2⟩
theorem VS.size (h : VS b1 D1 v1 q1 xs b2 D2 v2 q2 ys E l W) : E + 4 ≤ W.heap.size := by have := (Array.getElem?_eq_some_iff.1 h.bs).1; omega
theorem VS.below (h : VS b1 D1 v1 q1 xs b2 D2 v2 q2 ys E l W) (hb : Below W.heap.size W W') : VS b1 D1 v1 q1 xs b2 D2 v2 q2 ys E l W' :=
  h.turn (Frm.below hb) ((hb.block _ (by have := h.size; omega)).trans h.bl)
theorem VS.cells (h : VS b1 D1 v1 q1 xs b2 D2 v2 q2 ys E l W) : W.cell? ⟨E, 0, none⟩ = some (.pointer (some ⟨D1, 0, none⟩)) ∧ W.cell? ⟨E + 1, 0, none⟩ = some (.pointer (some ⟨D2, 0, none⟩)) ∧ W.cell? ⟨E + 2, 0, none⟩ = some (.int .i64 l) ∧ W.frozen? ⟨E + 2, 0, none⟩ = false ∧
    W.cell? ⟨E + 3, 0, none⟩ = some (.func (.func 59) #[] #[.pointer (some ⟨E, 0, none⟩), .pointer (some ⟨E + 1, 0, none⟩), .pointer (some ⟨E + 2, 0, none⟩), .pointer (some ⟨E + 3, 0, none⟩)]) := by
  refine ⟨?_, ?_, ?_, ?_, ?_⟩
  · rw [cell_of_row _ _ _ _ _ _ h.ba]; rfl
  · rw [cell_of_row _ _ _ _ _ _ h.bb]; rfl
  · rw [cell_of_row _ _ _ _ _ _ h.bl]; rfl
  · simp [World.frozen?, h.bl]
  · rw [cell_of_row _ _ _ _ _ _ h.bs]; rfl
theorem VS.set (h : VS b1 D1 v1 q1 xs b2 D2 v2 q2 ys E l W) (l' : Int) : VS b1 D1 v1 q1 xs b2 D2 v2 q2 ys E l' (W.setCell ⟨E + 2, 0, none⟩ (.int .i64 l')) ∧ Frm (fun k => k = E + 2) W (W.setCell ⟨E + 2, 0, none⟩ (.int .i64 l')) := by
  have hf : Frm (fun k => k = E + 2) W (W.setCell ⟨E + 2, 0, none⟩ (.int .i64 l')) := Frm.set _ rfl
  exact ⟨h.turn hf (heap_setCell_same _ _ 0 _ _ _ h.bl), hf⟩
/-- what such a call leaves -/
def SP (b1 D1 : Nat) (v1 : Value) (q1 : Bool) (xs : List Nd) (b2 D2 : Nat) (v2 : Value) (q2 : Bool) (ys : List Nd) (E : Nat) (l : Int) (b : Bool) (W : World) (e : Ending) (W' : World) : Prop :=
  e = .returned (.bool b) ∧ (∃ l', VS b1 D1 v1 q1 xs b2 D2 v2 q2 ys E l' W' ∧ (b = true → l' = l)) ∧ Frm (fun k => k = E + 2) W W'
theorem Sm.ge {xs ys : List Nd} {l l2 : Int} {ks js : List Int} {b : Bool} (h : Sm xs ys l ks js b l2) : b = true → 0 ≤ l → 0 ≤ l2 := by
  induction h with
  | nil => intro _ h; exact h
  | skip _ _ _ ih => exact ih
  | go _ _ _ _ _ _ _ _ _ _ ih1 ih2 ih3 => intro h _; exact ih3 h (ih2 rfl (ih1 rfl (by omega)))
  | _ => intro h; cases h
set_option maxHeartbeats 1000000 in
theorem eqf_any (ks js : List Int) (A B : Option Addr) (c d : Nat) (W : World) (left : Int) (b : Bool) (l : Int) (hl : ks.length ≤ 1000000) (h0 : 0 ≤ left) (hlen : ks.length = js.length)
    (hsm : Sm xs ys left ks js b l) (hv : VS b1 D1 v1 q1 xs b2 D2 v2 q2 ys E left W)
    (hr : ∀ W', Frm (fun k => k = E + 2) W W' → Rd W' .i64 A ks ∧ Rd W' .i64 B js)
    (hstep : ∀ (k j : Int) (lf : Int) (b1' : Bool) (l1 : Int) (W' : World), 0 ≤ lf → lf ≤ left → Sm xs ys lf [k] [j] b1' l1 → VS b1 D1 v1 q1 xs b2 D2 v2 q2 ys E lf W' → Calls Try.prog 59 #[.int .i64 k, .int .i64 j, .pointer (some ⟨E, 0, none⟩), .pointer (some ⟨E + 1, 0, none⟩), .pointer (some ⟨E + 2, 0, none⟩), .pointer (some ⟨E + 3, 0, none⟩)] W' (SP b1 D1 v1 q1 xs b2 D2 v2 q2 ys E l1 b1' W')) :
    Calls Try.prog 61 #[.slice A ks.length c, .slice B js.length d, .func (.func 59) #[] #[.pointer (some ⟨E, 0, none⟩), .pointer (some ⟨E + 1, 0, none⟩), .pointer (some ⟨E + 2, 0, none⟩), .pointer (some ⟨E + 3, 0, none⟩)]] W (SP b1 D1 v1 q1 xs b2 D2 v2 q2 ys E l b W) := by
  have HR := Lib.hid hr
  have HS := Lib.hid hstep
  have HSM := Lib.hid hsm
  have HV := Lib.hid hv
  have hn2 : ((ks.length : Int) != (js.length : Int)) = false := by simp [hlen]
  have hn3 : (ks.length != js.length) = false := by simp [hlen]
  have HL := Lib.hid hlen
  clear hr hstep hsm hv hlen
  go_enter Try.func61, Try.ntmps61
  go_wp2
  clear hn2 hn3
  go_loopw [17] (fun iv wr => ∃ (k : Nat) (lf : Int), k ≤ ks.length ∧ iv = .int .i64 k ∧ Hid (0 ≤ lf ∧ lf ≤ left) ∧ Hid (Sm xs ys lf (ks.drop k) (js.drop k) b l) ∧ Hid (VS b1 D1 v1 q1 xs b2 D2 v2 q2 ys E lf wr) ∧ Hid (Frm (fun k => k = E + 2) W wr)) (fun iv _ => ks.length - (intOf iv).toNat)
  case atStart => exact ⟨0, left, Nat.zero_le _, rfl, Lib.hid ⟨h0, Int.le_refl _⟩, HSM, HV, Lib.hid (Frm.refl _ _)⟩
  case round =>
    obtain ⟨k, lf, hk, rfl, HLE, HM, HVk, HF⟩ := hrel
    by_cases hlt : k < ks.length
    · have hly : k < js.length := by rw [← HL.out]; exact hlt
      have hly2 : (k : Int) < (js.length : Int) := by omega
      obtain ⟨x, hx⟩ : ∃ x, ks[k]? = some x := ⟨_, List.getElem?_eq_getElem hlt⟩
      obtain ⟨y, hy⟩ : ∃ y, js[k]? = some y := ⟨_, List.getElem?_eq_getElem hly⟩
      obtain ⟨r1, r2⟩ := HR.out wr HF.out
      obtain ⟨bb, off, rfl, hbb, hc1⟩ := r1.pos (by omega)
      obtain ⟨bb2, off2, rfl, hbb2, hc2⟩ := r2.pos (by omega)
      have k1 := hc1 k hlt
      have k2 := hc2 k hly
      rw [hx] at k1
      rw [hy] at k2
      have k1 : wr.cell? ⟨bb, off + k, none⟩ = some (.int .i64 x) := k1
      have k2 : wr.cell? ⟨bb2, off2 + k, none⟩ = some (.int .i64 y) := k2
      have hd1 : ks.drop k = x :: ks.drop (k + 1) := by rw [List.drop_eq_getElem_cons hlt]; rw [List.getElem?_eq_getElem hlt] at hx; injection hx with hx; rw [hx]
      have hd2 : js.drop k = y :: js.drop (k + 1) := by rw [List.drop_eq_getElem_cons hly]; rw [List.getElem?_eq_getElem hly] at hy; injection hy with hy; rw [hy]
      have hm := HM.out
      rw [hd1, hd2] at hm
      obtain ⟨b1', l1, hm1, hmf, hmt⟩ := hm.head
      have HMF := Lib.hid hmf
      have HMT := Lib.hid hmt
      have HLE1 := Lib.hid (hm1.le)
      have HGE1 := Lib.hid (hm1.ge)
      have KS := Lib.hid (HS.out x y lf b1' l1 wr HLE.out.1 HLE.out.2 hm1 HVk.out)
      clear hc1 hc2 hx hy hd1 hd2 hm hm1 hmf hmt r1 r2 hbb hbb2
      go_wp2_with fail
      refine KS.out.mono ?_
      rintro e w2 ⟨rfl, ⟨l', hv2, hl2⟩, hf2⟩
      have HV2 := Lib.hid hv2
      have HL2 := Lib.hid hl2
      have HF2 := Lib.hid hf2
      clear hv2 hl2 hf2 KS
      cases b1' with
      | true =>
        go_wp2
        go_roundw
        case rel =>
          have e1 := HL2.out (by trivial)
          exact ⟨k + 1, l1, by omega, by go_num, Lib.hid ⟨HGE1.out (by trivial) HLE.out.1, Int.le_trans (HLE1.out (by trivial)) HLE.out.2⟩, Lib.hid (HMT.out (by trivial)), Lib.hid (by rw [← e1]; exact HV2.out), Lib.hid (HF.out.trans HF2.out)⟩
        case measure => simp [intOf]; omega
      | false =>
        have eb := HMF.out rfl
        subst eb
        go_wp2
        go_ret
        exact ⟨rfl, ⟨l', HV2.out, fun h => by cases h⟩, HF.out.trans HF2.out⟩
    · obtain rfl : k = ks.length := by omega
      have hm := HM.out
      rw [List.drop_length, HL.out, List.drop_length] at hm
      obtain ⟨rfl, rfl⟩ : b = true ∧ lf = l := by cases hm; exact ⟨rfl, rfl⟩
      clear hm
      go_wp2
      go_ret
      exact ⟨rfl, ⟨lf, HVk.out, fun _ => rfl⟩, HF.out⟩
/-- lists of unlike lengths -/
theorem eqf_len (ks js : List Int) (A B : Option Addr) (c d : Nat) (fv : Value) (W : World) (hlen : ks.length ≠ js.length) :
    Calls Try.prog 61 #[.slice A ks.length c, .slice B js.length d, fv] W fun e W' => e = .returned (.bool false) ∧ W' = W := by
  have hn2 : ((ks.length : Int) != (js.length : Int)) = true := by simp; omega
  have hn3 : (ks.length != js.length) = true := by simp [hlen]
  clear hlen
  go_enter Try.func61, Try.ntmps61
  go_wp2
  go_ret
  exact ⟨rfl, rfl⟩
end
end Go.Proofs.Ytodlcfhkiilpgaa
