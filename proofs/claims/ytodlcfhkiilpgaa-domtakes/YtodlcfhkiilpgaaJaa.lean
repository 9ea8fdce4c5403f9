/- What a copy is: the same, walked alike; no copy of what isn't there, or of a page. -/
import Derived.Test.YtodlcfhkiilpgaaJz
namespace Go.Proofs.Ytodlcfhkiilpgaa
open Go.RowKit Go.Shelf Go.Lib
attribute [local go_sem] Oper.semAt_some

theorem Cp.src {ns ys : List Nd} {k j : Int} {x y : Nd} {a b : Nat} (hx : ns[k.toNat]? = some x) (hy : ys[j.toNat]? = some y) (hk : inN ns k = true) (hj : inN ys j = true) (g1 : Cp ns ys x.kids y.kids a) (g2 : Cp ns ys (innL ns k) (innL ys j) b) : ∃ c, Cp ns ys (kdN ns (srcN ns k)) (kdN ys (srcN ys j)) c ∧ c ≤ a + b := by
  have kd : ∀ (zs : List Nd) (n : Int) (z : Nd), inN zs n = true → zs[n.toNat]? = some z → kdN zs n = z.kids := fun zs n z hn hz => by
    obtain ⟨i, z', rfl, hz'⟩ := inN_at hn
    rw [Int.toNat_natCast] at hz
    unfold kdN
    rw [atN_some hz]
  rcases innL_len g2.len with ⟨p, q⟩ | ⟨p, q⟩
  · unfold srcN
    rw [if_pos p, if_pos q, kd _ _ _ hk hx, kd _ _ _ hj hy]
    exact ⟨_, g1, by omega⟩
  · unfold srcN
    rw [if_neg p, if_neg q]
    unfold innL at g2
    rw [if_neg p, if_neg q] at g2
    cases g2 with
    | cons h1 h2 h3 h4 _ g _ _ =>
      rw [kd _ _ _ h3 h1, kd _ _ _ h4 h2]
      exact ⟨_, g, by omega⟩
/-- a copy is walked as what it is a copy of -/
theorem Wk.copy {ns ys : List Nd} (h : Tr (ns.map Nd.pl)) {ks : List Int} {d : Nat} {o : List (Int × Nat)} (hw : Wk (ns.map Nd.pl) ks d o) : (∀ c ∈ ks, 0 ≤ c ∧ c < ns.length) → ∀ (js : List Int) (c : Nat), Cp ns ys ks js c →
    o.length ≤ c ∧ ∃ o', o'.length = o.length ∧ (∀ (q : Nat) (p : Int × Nat), o[q]? = some p → ∃ k', o'[q]? = some (k', p.2) ∧ inN ys k' = true ∧ atN ys k' Nd.kind 0 = atN ns p.1 Nd.kind 0) ∧ ∀ left, o.length ≤ left → Vis ys left js d o' (left - o.length) true := by
  induction hw with
  | nil => intro _ js c hc; cases hc; exact ⟨Nat.le_refl _, [], rfl, fun q p hp => by simp at hp, fun left _ => Vis.nil⟩
  | @cons k ks d o o2 hw1 hw2 ih1 ih2 =>
    intro hin js c hc
    obtain ⟨k0, k1⟩ := hin k (List.mem_cons_self ..)
    have hks : ∀ c ∈ ks, 0 ≤ c ∧ c < ns.length := fun c hc => hin c (List.mem_cons_of_mem _ hc)
    cases hc with
    | @cons _ _ j js x y a b c2 h1 h2 h3 h4 h5 g1 g2 g3 =>
      have hch : ∀ c ∈ chQ (ns.map Nd.pl) k, 0 ≤ c ∧ c < ns.length := fun c hc => by
        obtain ⟨i, rfl⟩ : ∃ i : Nat, k = i := ⟨k.toNat, by omega⟩
        obtain ⟨x', hx'⟩ : ∃ x, (ns.map Nd.pl)[i]? = some x := ⟨_, List.getElem?_eq_getElem (by rw [List.length_map]; omega)⟩
        obtain ⟨_, _, _, _, h4, _⟩ := h.ch hx'
        have := h4 c hc
        rw [List.length_map] at this
        exact ⟨this.1, this.2.1⟩
      obtain ⟨c3, hs, hc3⟩ := Cp.src h1 h2 h3 h4 g1 g2
      rw [ch_pl h k0 k1] at hs
      obtain ⟨e0, o', e1, e2, e3⟩ := ih1 hch _ _ hs
      obtain ⟨f0, o2', f1, f2, f3⟩ := ih2 hks _ _ g3
      refine ⟨by simp only [List.length_append, List.length_cons]; omega, (j, d) :: o' ++ o2', by simp [e1, f1], fun q p hp => ?_, fun left hl => ?_⟩
      · have kk : atN ys j Nd.kind 0 = atN ns k Nd.kind 0 := by
          obtain ⟨i, x', rfl, hx'⟩ := inN_at h3
          obtain ⟨i2, y', rfl, hy'⟩ := inN_at h4
          rw [Int.toNat_natCast] at h1 h2
          rw [atN_some h1, atN_some h2]
          unfold ndS at h5
          simp only [Bool.and_eq_true, beq_iff_eq] at h5
          exact h5.1.1.1.1.1.1.symm
        cases q with
        | zero =>
          simp at hp
          subst hp
          exact ⟨j, rfl, h4, kk⟩
        | succ q =>
          simp only [List.cons_append, List.getElem?_cons_succ] at hp ⊢
          rcases Nat.lt_or_ge q o.length with hq | hq
          · rw [List.getElem?_append_left hq] at hp
            obtain ⟨k', r1, r2⟩ := e2 q p hp
            exact ⟨k', by rw [List.getElem?_append_left (by omega)]; exact r1, r2⟩
          · rw [List.getElem?_append_right hq] at hp
            obtain ⟨k', r1, r2⟩ := f2 _ p hp
            exact ⟨k', by rw [List.getElem?_append_right (by omega), e1]; exact r1, r2⟩
      · simp only [List.length_append, List.length_cons] at hl
        obtain ⟨m, rfl⟩ : ∃ m, left = m + 1 := ⟨left - 1, by omega⟩
        have v1 := e3 m (by omega)
        have v2 := f3 (m - o.length) (by omega)
        have := Vis.go h4 v1 v2
        rw [show m + 1 - ((k, d) :: o ++ o2).length = m - o.length - o2.length by simp; omega]
        exact this
/-- what Take leaves in a tree that was new -/
theorem take_facts {ns ys N : List Nd} {L' : List (Nat × Int)} {i : Nat} (hC : Cn ns) (hG : Gd ns) (htk : Tk ns [pageNd].length (itm [(i : Int)] (-1)) (([pageNd].length, -1) :: L') N) (hk : ∀ x, ns[i]? = some x → x.kind ≠ 1) (h : P2 [pageNd] N L' L'.length ys) :
    Cp ns ys [(i : Int)] [1] N.length ∧ ys.length = 1 + N.length ∧ ∃ y, ys[1]? = some y ∧ y.up = -1 := by
  have hnum := htk.nums
  obtain ⟨L2, e, hpw, hgood⟩ := htk.good1 hG hC (fun x hx => by rw [Int.toNat_natCast] at hx; exact hk x hx)
  injection e with _ e
  subst e
  have htake : L'.take L'.length = L' := List.take_length
  have h1 : ∀ p ∈ L', p.2 ≠ -1 ∧ 1 < p.1 := fun p hp => by
    obtain ⟨qk, qu, zk, zu, a1, _, _, a4, a5, _⟩ := hgood p hp
    simp only [List.length_singleton] at a1 a4 a5
    exact ⟨by rw [a4]; omega, by omega⟩
  have hcp := htk.cp hC L' (([pageNd].length, -1) :: L').length [pageNd].length [(i : Int)] (-1) _ N (Nat.le_refl _) (by simp) (by simp) (fun j hj _ => by rw [ck_no (by omega)]) (fun q z hz => by
    obtain ⟨y, hy, a, b, _⟩ := h.new q z hz
    rw [htake] at b
    exact ⟨y, hy, a, b⟩)
  have hck : ck (([pageNd].length, -1) :: L') (-1) = [1] := by
    rw [ck_yes, ck_none (fun p hp => (h1 p hp).1)]
    rfl
  rw [hck] at hcp
  refine ⟨hcp, by have := h.len; simpa using this, ?_⟩
  have hN0 : 0 < N.length := by
    have := htk.len
    simp [itm] at this
    omega
  obtain ⟨z, hz⟩ : ∃ z, N[0]? = some z := ⟨_, List.getElem?_eq_getElem hN0⟩
  obtain ⟨y, hy, _, _, _, b⟩ := h.new 0 z hz
  refine ⟨y, hy, b ?_⟩
  rw [htake]
  intro hm
  obtain ⟨p, hp, e⟩ := List.mem_map.1 hm
  have := (h1 p hp).2
  simp at e
  omega
section
variable {b1 D1 : Nat} {v1 : Value} {q1 : Bool} {ns : List Nd}
set_option maxHeartbeats 1000000 in
theorem take_none (D2 : Nat) (n : Int) (w : World) (h1 : DocM b1 D1 v1 q1 ns w) (hn : inN ns n = false ∨ atN ns n Nd.kind 0 = 1) :
    Calls Try.prog 17 #[.pointer (some ⟨D2, 0, none⟩), .pointer (some ⟨D1, 0, none⟩), .int .i64 n] w fun e W' => e = .returned (.int .i64 (-1)) ∧ W' = w := by
  have KH := Lib.hid (has_any n w h1)
  cases hin : inN ns n with
  | false =>
    rw [hin] at KH
    clear h1 hn hin
    go_enter Try.func17, Try.ntmps17
    go_wp2_with fail
    refine KH.out.mono ?_
    rintro e w1 ⟨rfl, rfl⟩
    go_wp2
    go_ret
    exact ⟨rfl, rfl⟩
  | true =>
    rw [hin] at KH
    obtain ⟨i, x0, rfl, hx0⟩ := inN_at hin
    have hk : x0.kind = 1 := by
      rcases hn with h | h
      · rw [hin] at h; cases h
      · rwa [atN_some hx0] at h
    obtain ⟨A1, ca1, rfl, hle1, hmx1, hg1⟩ := h1.sl
    have hil := (List.getElem?_eq_some_iff.1 hx0).1
    obtain ⟨G1, rfl, _, hG1⟩ := hg1 (by omega)
    have c1 := h1.cells.1
    have ck0 : w.cell? ⟨G1, i * 10, none⟩ = some (.int .i64 x0.kind) := h1.cell hx0 (show 0 < 10 by omega)
    rw [hk] at ck0
    unfold maxLen at hmx1
    clear h1 hn hin hx0 hg1 hk
    go_enter Try.func17, Try.ntmps17
    go_wp2_with fail
    refine KH.out.mono ?_
    rintro e w1 ⟨rfl, rfl⟩
    go_wp2
    go_ret
    exact ⟨rfl, rfl⟩
end
end Go.Proofs.Ytodlcfhkiilpgaa
