/- Same: whether two nodes are the same, with all beneath them. -/
import Derived.Test.YtodlcfhkiilpgaaJq
namespace Go.Proofs.Ytodlcfhkiilpgaa
open Go.RowKit Go.Shelf Go.Lib
attribute [local go_sem] Oper.semAt_some

section
variable {b1 D1 : Nat} {v1 : Value} {q1 : Bool} {xs : List Nd} {b2 D2 : Nat} {v2 : Value} {q2 : Bool} {ys : List Nd} {E : Nat} {l l' : Int} {W W' : World}
theorem VS.rd (h : VS b1 D1 v1 q1 xs b2 D2 v2 q2 ys E l W) (hf : Frm (fun k => k = E + 2) W W') {i j : Nat} {x y : Nd} (hx : xs[i]? = some x) (hy : ys[j]? = some y) {xa ya : Option Addr} {xc yc : Nat} (hxk : x.kv = .slice xa x.kids.length xc) (hyk : y.kv = .slice ya y.kids.length yc) : Rd W' .i64 xa x.kids ∧ Rd W' .i64 ya y.kids := by
  have d1 := h.d1.keep hf (fun k hk e => by have := h.lt1 k hk; omega)
  have d2 := h.d2.keep hf (fun k hk e => by have := h.lt2 k hk; omega)
  obtain ⟨A, c, e1, _, _, _, h4⟩ := Rd.own (d1.kids i x hx)
  obtain ⟨A', c', e2, _, _, _, h5⟩ := Rd.own (d2.kids j y hy)
  rw [hxk] at e1
  rw [hyk] at e2
  injection e1 with e1
  injection e2 with e2
  rw [e1, e2]
  exact ⟨h4, h5⟩
theorem same_any (hat : ∀ x ∈ xs, x.attrs.length ≤ 1000000 ∧ x.kids.length ≤ 1000000) : ∀ (N : Nat) (lv m n : Int) (b : Bool) (l : Int) (W : World), lv.toNat ≤ N → 0 ≤ lv → lv ≤ 1000000 → Sm xs ys lv [m] [n] b l → VS b1 D1 v1 q1 xs b2 D2 v2 q2 ys E lv W →
    Calls Try.prog 59 #[.int .i64 m, .int .i64 n, .pointer (some ⟨E, 0, none⟩), .pointer (some ⟨E + 1, 0, none⟩), .pointer (some ⟨E + 2, 0, none⟩), .pointer (some ⟨E + 3, 0, none⟩)] W (SP b1 D1 v1 q1 xs b2 D2 v2 q2 ys E l b W) := by
  intro N
  induction N using Nat.strongRecOn with
  | _ N ih =>
    intro lv m n b l W hN hl0 hl6 hsm hv
    cases hb : (inN xs m && inN ys n) with
    | false =>
      refine (same_none m n lv hb hv).mono ?_
      rintro e W' ⟨rfl, ⟨l', hv', hl'⟩, hf⟩
      cases hsm with
      | miss h1 h2 => rw [h2]; exact ⟨rfl, ⟨l', hv', fun h => by cases h⟩, hf⟩
      | skip h1 h2 h3 =>
        cases h3
        rw [h2] at hl' ⊢
        exact ⟨rfl, ⟨l', hv', hl'⟩, hf⟩
      | out h1 h2 => rw [h1, h2] at hb; cases hb
      | unlike _ _ h1 h2 => rw [h1, h2] at hb; cases hb
      | kids _ _ h1 h2 => rw [h1, h2] at hb; cases hb
      | inner _ _ h1 h2 => rw [h1, h2] at hb; cases hb
      | go _ _ h1 h2 => rw [h1, h2] at hb; cases hb
    | true =>
      rw [Bool.and_eq_true] at hb
      obtain ⟨i, x, rfl, hx⟩ := inN_at hb.1
      obtain ⟨j, y, rfl, hy⟩ := inN_at hb.2
      obtain ⟨a1, a2⟩ := hat x (List.mem_of_getElem? hx)
      obtain ⟨xa, xc, hxk⟩ := own_slice (hv.d1.kids i x hx)
      obtain ⟨ya, yc, hyk⟩ := own_slice (hv.d2.kids j y hy)
      -- over the kids
      have heq : ∀ (b13 : Bool) (l2 : Int), 0 < lv → x.kids.length = y.kids.length → Sm xs ys (lv - 1) x.kids y.kids b13 l2 → ∀ w2, VS b1 D1 v1 q1 xs b2 D2 v2 q2 ys E (lv - 1) w2 → Calls Try.prog 61 #[x.kv, y.kv, .func (.func 59) #[] #[.pointer (some ⟨E, 0, none⟩), .pointer (some ⟨E + 1, 0, none⟩), .pointer (some ⟨E + 2, 0, none⟩), .pointer (some ⟨E + 3, 0, none⟩)]] w2 (SP b1 D1 v1 q1 xs b2 D2 v2 q2 ys E l2 b13 w2) := by
        intro b13 l2 h0 hlen hs w2 hv2
        rw [hxk, hyk]
        exact eqf_any x.kids y.kids xa ya xc yc w2 (lv - 1) b13 l2 a2 (by omega) hlen hs hv2 (fun W' hf => hv2.rd hf hx hy hxk hyk)
          (fun k j lf b1' l1 W' hf0 hle hs1 hv1 => ih lf.toNat (by omega) lf k j b1' l1 W' (Nat.le_refl _) hf0 (by omega) hs1 hv1)
      have hgt : ∀ {k : Nat} {ns : List Nd} {z : Nd}, ns[((k : Nat) : Int).toNat]? = some z → ns[k]? = some z := fun h => by rwa [Int.toNat_natCast] at h
      cases hsm with
      | miss h1 => rw [hb.1, hb.2] at h1; cases h1
      | skip h1 => rw [hb.1, hb.2] at h1; cases h1
      | out _ _ h0 =>
        exact same_both i j x y lv false l hx hy ⟨hl0, hl6⟩ hv a1 false l (fun _ => rfl) (fun h => by omega) (fun h => by omega) (fun h => by omega)
      | @unlike _ _ _ _ _ x' y' _ g1 g2 _ _ h0 h6 =>
        have g1 := hgt g1
        have g2 := hgt g2
        rw [hx] at g1
        rw [hy] at g2
        cases g1
        cases g2
        refine same_both i j x y lv false l hx hy ⟨hl0, hl6⟩ hv a1 false l (fun _ => rfl) (fun _ hn w2 hv2 => ?_) (fun _ _ _ => rfl) (fun _ _ h => by cases h)
        rw [hn, Bool.true_and, beq_eq_false_iff_ne] at h6
        rw [hxk, hyk]
        refine (eqf_len x.kids y.kids xa ya xc yc _ w2 h6).mono ?_
        rintro e w3 ⟨rfl, rfl⟩
        exact ⟨rfl, ⟨_, hv2, fun h => by cases h⟩, Frm.refl _ _⟩
      | @kids _ _ _ _ _ x' y' l2 _ g1 g2 _ _ h0 h6 h7 h8 =>
        have g1 := hgt g1
        have g2 := hgt g2
        rw [hx] at g1
        rw [hy] at g2
        cases g1
        cases g2
        exact same_both i j x y lv false l hx hy ⟨hl0, hl6⟩ hv a1 false l2 (fun _ => rfl) (fun h0 _ => heq false l2 h0 h7 h8) (fun _ _ _ => rfl) (fun _ _ h => by cases h)
      | @inner _ _ _ _ _ x' y' l2 l3 _ g1 g2 _ _ h0 h6 h7 h8 h9 =>
        have g1 := hgt g1
        have g2 := hgt g2
        rw [hx] at g1
        rw [hy] at g2
        cases g1
        cases g2
        have e1 := h8.le rfl
        have e2 := h8.ge rfl (by omega)
        refine same_both i j x y lv false l hx hy ⟨hl0, hl6⟩ hv a1 true l2 (fun _ => rfl) (fun h0 _ => heq true l2 h0 h7 h8) (fun _ _ h => by cases h) (fun _ _ _ w2 hv2 => ?_)
        refine (ih l2.toNat (by omega) l2 _ _ false l3 w2 (Nat.le_refl _) e2 (by omega) h9 hv2).mono ?_
        rintro e w3 ⟨rfl, ⟨l', h1, _⟩, h2⟩
        exact ⟨rfl, ⟨l', h1, fun h => by cases h⟩, h2⟩
      | @go _ _ _ _ _ x' y' l2 l3 _ _ g1 g2 _ _ h0 h6 h7 h8 h9 h10 =>
        have g1 := hgt g1
        have g2 := hgt g2
        rw [hx] at g1
        rw [hy] at g2
        cases g1
        cases g2
        cases h10
        have e1 := h8.le rfl
        have e2 := h8.ge rfl (by omega)
        refine same_both i j x y lv true l hx hy ⟨hl0, hl6⟩ hv a1 true l2 (fun h => ?_) (fun h0 _ => heq true l2 h0 h7 h8) (fun _ _ h => by cases h) (fun _ _ _ w2 hv2 => ?_)
        · rcases h with h | h
          · omega
          · rw [h6] at h; cases h
        · exact ih l2.toNat (by omega) l2 _ _ true l w2 (Nat.le_refl _) e2 (by omega) h9 hv2
end
section
variable {b1 D1 : Nat} {v1 : Value} {q1 : Bool} {xs : List Nd} {b2 D2 : Nat} {v2 : Value} {q2 : Bool} {ys : List Nd}
set_option maxHeartbeats 1000000 in
theorem Same_any (m n : Int) (b : Bool) (l : Int) (W : World) (h1 : DocM b1 D1 v1 q1 xs W) (h2 : DocM b2 D2 v2 q2 ys W) (hat : ∀ x ∈ xs, x.attrs.length ≤ 1000000 ∧ x.kids.length ≤ 1000000) (hl : xs.length ≤ 1000000) (hsm : Sm xs ys xs.length [m] [n] b l) :
    Calls Try.prog 24 #[.pointer (some ⟨D1, 0, none⟩), .int .i64 m, .pointer (some ⟨D2, 0, none⟩), .int .i64 n] W fun e W' => e = .returned (.bool b) ∧ Below W.heap.size W W' := by
  obtain ⟨W1, hW1⟩ : ∃ W1, (W.alloc (.cells #[.pointer (some ⟨D1, 0, none⟩)] 23)).alloc (.cells #[.pointer (some ⟨D2, 0, none⟩)] 23) = W1 := ⟨_, rfl⟩
  have hs1 : W1.heap.size = W.heap.size + 2 := by rw [← hW1, World.size_alloc, World.size_alloc]
  have hb1 : Below W.heap.size W W1 := by rw [← hW1]; exact ((Below.refl _ W).alloc (Nat.le_refl _) _).alloc (by rw [World.size_alloc]; omega) _
  have g0 : W1.heap[W.heap.size]? = some (.cells #[.pointer (some ⟨D1, 0, none⟩)] 23 (0, 0)) := by rw [← hW1, Below.heap_alloc _ _ _ (by rw [World.size_alloc]; omega)]; exact heap_alloc_new W _
  have g1 : W1.heap[W.heap.size + 1]? = some (.cells #[.pointer (some ⟨D2, 0, none⟩)] 23 (0, 0)) := by
    rw [← hW1]
    have := heap_alloc_new (W.alloc (.cells #[.pointer (some ⟨D1, 0, none⟩)] 23)) (.cells #[.pointer (some ⟨D2, 0, none⟩)] 23)
    rwa [World.size_alloc] at this
  have KZ := Lib.hid (size_any W1 (h1.below hb1))
  obtain ⟨W2, hW2⟩ : ∃ W2, (W1.alloc (.cells #[.int .i64 xs.length] 3)).alloc (.cells #[.func (.func 59) #[] #[.pointer (some ⟨W.heap.size, 0, none⟩), .pointer (some ⟨W.heap.size + 1, 0, none⟩), .pointer (some ⟨W.heap.size + 2, 0, none⟩), .pointer (some ⟨W.heap.size + 3, 0, none⟩)]] 75) = W2 := ⟨_, rfl⟩
  have hb2 : Below W1.heap.size W1 W2 := by rw [← hW2]; exact ((Below.refl _ W1).alloc (Nat.le_refl _) _).alloc (by rw [World.size_alloc]; omega) _
  have g2 : W2.heap[W.heap.size + 2]? = some (.cells #[.int .i64 xs.length] 3 (0, 0)) := by
    rw [← hW2, Below.heap_alloc _ _ _ (by rw [World.size_alloc]; omega), ← hs1]; exact heap_alloc_new W1 _
  have g3 : W2.heap[W.heap.size + 3]? = some (.cells #[.func (.func 59) #[] #[.pointer (some ⟨W.heap.size, 0, none⟩), .pointer (some ⟨W.heap.size + 1, 0, none⟩), .pointer (some ⟨W.heap.size + 2, 0, none⟩), .pointer (some ⟨W.heap.size + 3, 0, none⟩)]] 75 (0, 0)) := by
    rw [← hW2]
    have := heap_alloc_new (W1.alloc (.cells #[.int .i64 xs.length] 3)) (.cells #[.func (.func 59) #[] #[.pointer (some ⟨W.heap.size, 0, none⟩), .pointer (some ⟨W.heap.size + 1, 0, none⟩), .pointer (some ⟨W.heap.size + 2, 0, none⟩), .pointer (some ⟨W.heap.size + 3, 0, none⟩)]] 75)
    rwa [World.size_alloc, hs1] at this
  have hbb : Below W.heap.size W W2 := hb1.trans (hb2.mono (by omega))
  have HVS : Hid (VS b1 D1 v1 q1 xs b2 D2 v2 q2 ys W.heap.size xs.length W2) := Lib.hid ⟨h1.below hbb, h2.below hbb, (hb2.block _ (by omega)).trans g0, (hb2.block _ (by omega)).trans g1, g2, g3, fun k hk => (h1.in_ k hk).2, fun k hk => (h2.in_ k hk).2⟩
  have KS := Lib.hid (same_any hat xs.length (xs.length : Int) m n b l W2 (by omega) (by omega) (by omega) hsm HVS.out)
  have HBB := Lib.hid hbb
  have c0 : W1.cell? ⟨W.heap.size, 0, none⟩ = some (.pointer (some ⟨D1, 0, none⟩)) := by rw [cell_of_row _ _ _ _ _ _ g0]; rfl
  have c3 : W2.cell? ⟨W.heap.size + 3, 0, none⟩ = some (.func (.func 59) #[] #[.pointer (some ⟨W.heap.size, 0, none⟩), .pointer (some ⟨W.heap.size + 1, 0, none⟩), .pointer (some ⟨W.heap.size + 2, 0, none⟩), .pointer (some ⟨W.heap.size + 3, 0, none⟩)]) := by rw [cell_of_row _ _ _ _ _ _ g3]; rfl
  have HW2 := Lib.hid hW2
  clear h1 h2 hat hsm hb1 hb2 hbb g0 g1 g2 g3 hW2 HVS
  subst hW1
  go_enter Try.func24, Try.ntmps24
  go_wp2_with fail
  refine KZ.out.mono ?_
  rintro e w1 ⟨rfl, hw⟩
  rw [hw]
  clear hw w1
  go_upto_region 4 with fail
  have e1 : W.heap.size + 1 + 1 = W.heap.size + 2 := rfl
  rw [HW2.out]
  clear c0 KZ hs1
  go_wp2_with fail
  refine KS.out.mono ?_
  rintro e w3 ⟨rfl, _, hf⟩
  have hz := HBB.out.size
  have hb3 : Below W.heap.size W w3 := HBB.out.trans (hf.toBelow hz (fun k e => by omega))
  go_wp2
  go_ret
  exact ⟨rfl, hb3⟩
end
end Go.Proofs.Ytodlcfhkiilpgaa
