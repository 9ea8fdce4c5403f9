/- Copying, plain: where the copies go, in which order; putting them there. -/
import Derived.Test.YtodlcfhkiilpgaaJw
import Derived.Test.YtodlcfhkiilpgaaJu
namespace Go.Proofs.Ytodlcfhkiilpgaa
open Go.RowKit Go.Shelf Go.Lib

/-- what is asked of the tree: what has kids holds some, and these are no pages -/
def Gd (ns : List Nd) : Prop := ∀ (i : Nat) x, ns[i]? = some x → (x.kids ≠ [] → x.kind = 1 ∨ x.kind = 2) ∧ ∀ c ∈ x.kids, inN ns c = true ∧ ∀ y, ns[c.toNat]? = some y → y.kind ≠ 1
theorem Gd.kd {ns : List Nd} (h : Gd ns) (n : Int) : ∀ c ∈ kdN ns n, inN ns c = true ∧ ∀ y, ns[c.toNat]? = some y → y.kind ≠ 1 := by
  intro c hc
  cases hin : inN ns n with
  | false => unfold kdN at hc; rw [atN_none hin] at hc; cases hc
  | true =>
    obtain ⟨i, x, rfl, hx⟩ := inN_at hin
    unfold kdN at hc
    rw [atN_some hx] at hc
    exact (h i x hx).2 c hc
theorem itm_mem {ks : List Int} {u : Int} {p : Int × Int} (h : p ∈ itm ks u) : p.1 ∈ ks ∧ p.2 = u := by
  unfold itm at h
  obtain ⟨z, hz, rfl⟩ := List.mem_map.1 h
  exact ⟨hz, rfl⟩
theorem Tk.good {ns : List Nd} (hG : Gd ns) (hC : Cn ns) {m : Nat} {I : List (Int × Int)} {L : List (Nat × Int)} {N : List Nd} (h : Tk ns m I L N) : (∀ p ∈ I, ∀ x, ns[p.1.toNat]? = some x → x.kind ≠ 1) →
    (∀ p ∈ L, (∃ q z, p.1 = m + q ∧ N[q]? = some z ∧ z.kind ≠ 1) ∧ ((∃ q ∈ I, q.2 = p.2) ∨ ∃ (u : Nat) (z : Nd), p.2 = ((m + u : Nat) : Int) ∧ m + u < p.1 ∧ N[u]? = some z ∧ (z.kind = 1 ∨ z.kind = 2))) ∧ (L.map Prod.fst).Pairwise (· < ·) := by
  induction h with
  | nil => intro _; exact ⟨fun p hp => (by cases hp), List.Pairwise.nil⟩
  | @plain m k up rest L N x h1 h2 h3 h4 ih =>
    intro hI
    obtain ⟨i, x', rfl, hx'⟩ := inN_at h2
    rw [Int.toNat_natCast] at h1
    obtain ⟨g1, g2⟩ := hG i x h1
    obtain ⟨A, B⟩ := ih (fun p hp y hy => by
      rcases List.mem_append.1 hp with hp | hp
      · exact (g2 _ (itm_mem hp).1).2 y hy
      · exact hI p (List.mem_cons_of_mem _ hp) y hy)
    refine ⟨fun p hp => ?_, ?_⟩
    · rcases List.mem_cons.1 hp with rfl | hp
      · exact ⟨⟨0, _, rfl, rfl, hI _ (List.mem_cons_self ..) x (by simpa using h1)⟩, .inl ⟨_, List.mem_cons_self .., rfl⟩⟩
      · obtain ⟨⟨q, z, a1, a2, a3⟩, a4⟩ := A p hp
        refine ⟨⟨q + 1, z, by omega, a2, a3⟩, ?_⟩
        rcases a4 with ⟨r, hr, e⟩ | ⟨u, z', e1, e2, e3, e4⟩
        · rcases List.mem_append.1 hr with hr | hr
          · refine .inr ⟨0, _, ?_, by omega, rfl, g1 (fun e => by rw [e] at hr; cases hr)⟩
            rw [← e, (itm_mem hr).2]; rfl
          · exact .inl ⟨r, List.mem_cons_of_mem _ hr, e⟩
        · exact .inr ⟨u + 1, z', by rw [e1]; omega, by omega, e3, e4⟩
    · rw [List.map_cons, List.pairwise_cons]
      refine ⟨fun a ha => ?_, B⟩
      obtain ⟨p, hp, rfl⟩ := List.mem_map.1 ha
      obtain ⟨⟨q, _, a1, _⟩, _⟩ := A p hp
      omega
  | @tpl m k up rest L N x h1 h2 h3 h4 ih =>
    intro hI
    obtain ⟨i, x', rfl, hx'⟩ := inN_at h2
    rw [Int.toNat_natCast] at h1
    obtain ⟨g1, g2⟩ := hG i x h1
    obtain ⟨A, B⟩ := ih (fun p hp y hy => by
      rcases List.mem_append.1 hp with hp | hp
      · exact (g2 _ (itm_mem hp).1).2 y hy
      · rcases List.mem_append.1 hp with hp | hp
        · exact (hG.kd _ _ (itm_mem hp).1).2 y hy
        · exact hI p (List.mem_cons_of_mem _ hp) y hy)
    refine ⟨fun p hp => ?_, ?_⟩
    · rcases List.mem_cons.1 hp with rfl | hp
      · exact ⟨⟨0, _, rfl, rfl, hI _ (List.mem_cons_self ..) x (by simpa using h1)⟩, .inl ⟨_, List.mem_cons_self .., rfl⟩⟩
      · obtain ⟨⟨q, z, a1, a2, a3⟩, a4⟩ := A p hp
        refine ⟨⟨q + 2, z, by omega, a2, a3⟩, ?_⟩
        rcases a4 with ⟨r, hr, e⟩ | ⟨u, z', e1, e2, e3, e4⟩
        · rcases List.mem_append.1 hr with hr | hr
          · refine .inr ⟨0, _, ?_, by omega, rfl, g1 (fun e => by rw [e] at hr; cases hr)⟩
            rw [← e, (itm_mem hr).2]; rfl
          · rcases List.mem_append.1 hr with hr | hr
            · exact .inr ⟨1, pageNd, by rw [← e, (itm_mem hr).2], by omega, rfl, .inl rfl⟩
            · exact .inl ⟨r, List.mem_cons_of_mem _ hr, e⟩
        · exact .inr ⟨u + 2, z', by rw [e1]; omega, by omega, e3, e4⟩
    · rw [List.map_cons, List.pairwise_cons]
      refine ⟨fun a ha => ?_, B⟩
      obtain ⟨p, hp, rfl⟩ := List.mem_map.1 ha
      obtain ⟨⟨q, _, a1, _⟩, _⟩ := A p hp
      omega
/-- the nodes that come bear no kids, stand nowhere -/
theorem Tk.blank {ns : List Nd} {m : Nat} {I : List (Int × Int)} {L : List (Nat × Int)} {N : List Nd} (h : Tk ns m I L N) : ∀ (q : Nat) z, N[q]? = some z → z.kids = [] ∧ z.up = -1 ∧ (z.inner = -1 ∨ z.inner = ((m + q + 1 : Nat) : Int)) := by
  induction h with
  | nil => intro q z hz; simp at hz
  | @plain m k up rest L N x h1 h2 h3 h4 ih =>
    intro q z hz
    cases q with
    | zero => simp at hz; subst hz; exact ⟨rfl, rfl, .inl rfl⟩
    | succ q =>
      obtain ⟨a, b, c⟩ := ih q z (by simpa using hz)
      exact ⟨a, b, by rw [show m + (q + 1) + 1 = m + 1 + q + 1 by omega]; exact c⟩
  | @tpl m k up rest L N x h1 h2 h3 h4 ih =>
    intro q z hz
    match q, hz with
    | 0, hz => simp at hz; subst hz; exact ⟨rfl, rfl, .inr rfl⟩
    | 1, hz => simp at hz; subst hz; exact ⟨rfl, rfl, .inl rfl⟩
    | q + 2, hz =>
      obtain ⟨a, b, c⟩ := ih q z (by simpa using hz)
      exact ⟨a, b, by rw [show m + (q + 2) + 1 = m + 2 + q + 1 by omega]; exact c⟩
/-- behind the first i Puts -/
structure P2 (ms N : List Nd) (L' : List (Nat × Int)) (i : Nat) (ys : List Nd) : Prop where
  len : ys.length = ms.length + N.length
  old : ∀ (j : Nat) x, ms[j]? = some x → ∃ y, ys[j]? = some y ∧ Lk8 y x ∧ y.kids = x.kids ∧ y.up = x.up
  new : ∀ (q : Nat) z, N[q]? = some z → ∃ y, ys[ms.length + q]? = some y ∧ Lk8 y z ∧ y.kids = ck (L'.take i) ((ms.length + q : Nat) : Int) ∧ (y.up = -1 ∨ ∃ u : Nat, y.up = u ∧ u < ms.length + q) ∧ (ms.length + q ∉ (L'.take i).map Prod.fst → y.up = -1)
theorem wrap_pred {n : Int} (h0 : 0 ≤ n) (h1 : n ≤ 1000000) : wrap64 (n - 1) = n - 1 := by
  unfold wrap64
  omega
/-- one that stands above another one bears a lesser number: so a node isn't beneath those of greater numbers -/
theorem climb_lt {ys : List Nd} {top : Int} (h0 : 0 ≤ top) (hd : ∀ n : Int, 0 ≤ n → n < top → aboveN ys n < n ∧ -1 ≤ aboveN ys n) : ∀ (f : Nat) (n : Int), 0 ≤ n → n < top → (climb ys top f n == top) = false := by
  intro f
  induction f with
  | zero => intro n _ h; unfold climb; rw [beq_eq_false_iff_ne]; omega
  | succ f ih =>
    intro n hn h
    obtain ⟨a, b⟩ := hd n hn h
    unfold climb
    split
    · rw [beq_eq_false_iff_ne]; omega
    · rename_i hno
      exact ih _ (by omega) (by omega)
theorem P2.step {ms N : List Nd} {L' : List (Nat × Int)} {i : Nat} {ys : List Nd} (h : P2 ms N L' i ys) (hl : ys.length ≤ 1000000) (hms : ∀ (j : Nat) x, ms[j]? = some x → x.up = -1 ∧ x.inner ≤ 0)
    (hin : ∀ (q : Nat) z, N[q]? = some z → z.inner = -1 ∨ z.inner = ((ms.length + q + 1 : Nat) : Int))
    (hs : (L'.map Prod.fst).Pairwise (· < ·)) {K : Nat} {u : Int} (hL : L'[i]? = some (K, u)) {qk qu : Nat} {zk zu : Nd} (hK : K = ms.length + qk) (hzk : N[qk]? = some zk) (hk1 : zk.kind ≠ 1)
    (hu : u = ((ms.length + qu : Nat) : Int)) (huK : ms.length + qu < K) (hzu : N[qu]? = some zu) (hku : zu.kind = 1 ∨ zu.kind = 2) (v1 v2 : Value) :
    putE ys u K (-1) = 0 ∧ P2 ms N L' (i + 1) (putP ys u K (-1) v1 v2) := by
  subst hu hK
  obtain ⟨yk, hyk, lk, _, _, kup⟩ := h.new qk zk hzk
  obtain ⟨yu, hyu, lu, _, _, _⟩ := h.new qu zu hzu
  have htake : L'.take (i + 1) = L'.take i ++ [(ms.length + qk, ((ms.length + qu : Nat) : Int))] := by
    have hi := (List.getElem?_eq_some_iff.1 hL).1
    rw [List.take_succ_eq_append_getElem hi]
    rw [List.getElem?_eq_getElem hi] at hL
    injection hL with hL
    rw [hL]
  have hnot : ms.length + qk ∉ (L'.take i).map Prod.fst := by
    intro hm
    rw [List.map_take] at hm
    obtain ⟨j, hj⟩ := List.mem_iff_getElem?.1 hm
    have hji : j < i := by
      have := (List.getElem?_eq_some_iff.1 hj).1
      rw [List.length_take] at this
      omega
    rw [List.getElem?_take_of_lt hji] at hj
    have hLi : (L'.map Prod.fst)[i]? = some (ms.length + qk) := by rw [List.getElem?_map, hL]; rfl
    obtain ⟨a1, a2⟩ := List.getElem?_eq_some_iff.1 hj
    obtain ⟨b1, b2⟩ := List.getElem?_eq_some_iff.1 hLi
    have := List.pairwise_iff_getElem.1 hs j i a1 b1 hji
    omega
  have hup : yk.up = -1 := kup hnot
  have habv : ∀ n : Int, 0 ≤ n → n < ((ms.length + qk : Nat) : Int) → aboveN ys n < n ∧ -1 ≤ aboveN ys n := by
    intro n h0 h1
    have hql := (List.getElem?_eq_some_iff.1 hyk).1
    obtain ⟨j, rfl⟩ : ∃ j : Nat, n = j := ⟨n.toNat, by omega⟩
    have up : ∃ y, ys[j]? = some y ∧ (y.up = -1 ∨ ∃ w : Nat, y.up = w ∧ w < j) := by
      rcases Nat.lt_or_ge j ms.length with hj | hj
      · obtain ⟨x, hx⟩ : ∃ x, ms[j]? = some x := ⟨_, List.getElem?_eq_getElem hj⟩
        obtain ⟨y, hy, _, _, hyu⟩ := h.old j x hx
        exact ⟨y, hy, .inl (by rw [hyu]; exact (hms j x hx).1)⟩
      · obtain ⟨q, rfl⟩ : ∃ q, j = ms.length + q := ⟨j - ms.length, by omega⟩
        have hqn : q < N.length := by have := h.len; omega
        obtain ⟨y, hy, _, _, hyu, _⟩ := h.new q _ (List.getElem?_eq_getElem hqn)
        exact ⟨y, hy, hyu⟩
    obtain ⟨y, hy, hyu⟩ := up
    unfold aboveN
    rw [atN_some hy]
    rcases hyu with e | ⟨w, e, hw⟩
    · rw [if_neg (by omega)]
      rw [wrap_pred (by omega) (by have := h.len; omega)]
      split
      · omega
      · omega
    · rw [if_pos (by omega), e]
      omega
  have hw : withN ys ((ms.length + qu : Nat) : Int) ((ms.length + qk : Nat) : Int) = false := by
    unfold withN
    rw [if_neg (by omega)]
    split
    · rfl
    · exact climb_lt (by omega) habv _ _ (by omega) (by omega)
  obtain ⟨p1, p2⟩ := put_new hyu hyk (by rw [lu.1]; exact hku) (by rw [lk.1]; exact hk1) hup hw v1 v2
  refine ⟨p1, ?_, ?_, ?_⟩
  · have : ∀ (a : List Nd), a = putP ys ((ms.length + qu : Nat) : Int) ((ms.length + qk : Nat) : Int) (-1) v1 v2 → a.length = ys.length := by
      intro a ha
      rw [ha]
      unfold putP
      split
      · rw [setU_len, setK_len, outP_len]
      · rfl
    rw [this _ rfl]
    exact h.len
  · intro j x hx
    obtain ⟨y, hy, a1, a2, a3⟩ := h.old j x hx
    have hj := (List.getElem?_eq_some_iff.1 hx).1
    obtain ⟨y', hy', b1, b2, b3⟩ := p2 j y hy
    rw [if_neg (by omega)] at b2 b3
    exact ⟨y', hy', b1.trans a1, b2.trans a2, b3.trans a3⟩
  · intro q z hz
    obtain ⟨y, hy, a1, a2, a3, a4⟩ := h.new q z hz
    obtain ⟨y', hy', b1, b2, b3⟩ := p2 (ms.length + q) y hy
    refine ⟨y', hy', b1.trans a1, ?_, ?_, ?_⟩
    · rw [b2, htake, ck_app, a2]
      by_cases e : ms.length + q = ms.length + qu
      · rw [if_pos e, e, ck_yes]
        rfl
      · rw [if_neg e, ck_no (by omega)]
        show _ = _ ++ []
        rw [List.append_nil]
    · rw [b3]
      by_cases e : ms.length + q = ms.length + qk
      · rw [if_pos e]
        exact .inr ⟨_, rfl, by omega⟩
      · rw [if_neg e]
        exact a3
    · intro hno
      rw [htake, List.map_append, List.mem_append] at hno
      rw [b3, if_neg (fun e => hno (.inr (by simp [e])))]
      exact a4 (fun hm => hno (.inl hm))
end Go.Proofs.Ytodlcfhkiilpgaa
