/- Walks beneath a node of a tree, plain: there is one, and each node is shown once. -/
import Derived.Test.YtodlcfhkiilpgaaZM
namespace Go.Proofs.Ytodlcfhkiilpgaa
open Go.RowKit Go.Shelf Go.Lib

theorem Path.suffix {f : Int → Int} {n : Int} {l : List Int} (h : Path f n l) : ∀ m ∈ l, ∃ s, Path f m s ∧ s.length ≤ l.length ∧ (m ≠ n → s.length < l.length) ∧ ∀ x ∈ s, x ∈ l := by
  induction h with
  | nil => intro m hm; cases hm
  | @cons n l h0 hp ih =>
    intro m hm
    by_cases e : m = n
    · subst e
      exact ⟨_, .cons h0 hp, Nat.le_refl _, fun h => absurd rfl h, fun x hx => hx⟩
    · rcases List.mem_cons.1 hm with h | hm
      · exact absurd h e
      · obtain ⟨s, hs, hl, _, hm⟩ := ih m hm
        exact ⟨s, hs, by simp; omega, fun _ => by simp; omega, fun x hx => List.mem_cons_of_mem _ (hm x hx)⟩
theorem Path.len_of {f : Int → Int} {n m : Int} {l s : List Int} (h : Path f n l) (hm : m ∈ l) (hs : Path f m s) : s.length ≤ l.length ∧ (m ≠ n → s.length < l.length) ∧ ∀ x ∈ s, x ∈ l := by
  obtain ⟨s', h1, h2, h3, h4⟩ := h.suffix m hm
  have := h1.unique hs
  subst this
  exact ⟨h2, h3, h4⟩
/-- two that have the same one above them, on one way -/
theorem Path.one {f : Int → Int} {n a b p : Int} {l : List Int} (h : Path f n l) (ha : a ∈ l) (hb : b ∈ l) (fa : f a = p) (fb : f b = p) : a = b := by
  -- the way from each
  have key : ∀ a b : Int, a ∈ l → b ∈ l → f a = p → f b = p → ∀ sa, Path f a sa → b ∈ sa → a = b := by
    intro a b ha hb fa fb sa hsa hm
    rcases Classical.em (a = b) with e | e
    · exact e
    · exfalso
      cases hsa with
      | nil => cases hm
      | @cons _ t h0 ht =>
        rw [fa] at ht
        rcases List.mem_cons.1 hm with h | hm
        · exact e h.symm
        · -- b on the way from p
          obtain ⟨sb, h1, h2, _, _⟩ := ht.suffix b hm
          cases h1 with
          | nil => have := h.nonneg (-1) hb; omega
          | @cons _ tb h0b htb =>
            rw [fb] at htb
            have := htb.unique ht
            subst this
            simp at h2
            omega
  obtain ⟨sa, h1, _, _, h2⟩ := h.suffix a ha
  obtain ⟨sb, h3, _, _, h4⟩ := h.suffix b hb
  -- one of both comes first
  have tot : ∀ {n : Int} {l : List Int}, Path f n l → a ∈ l → b ∈ l → ∀ sa sb, Path f a sa → Path f b sb → b ∈ sa ∨ a ∈ sb := by
    intro n l h
    induction h with
    | nil => intro ha; cases ha
    | @cons n l h0 hp ih =>
      intro ha hb sa sb hsa hsb
      rcases List.mem_cons.1 ha with e | ha'
      · subst e
        have := hsa.unique (.cons h0 hp)
        subst this
        exact .inl hb
      · rcases List.mem_cons.1 hb with e | hb'
        · subst e
          have := hsb.unique (.cons h0 hp)
          subst this
          exact .inr ha
        · exact ih ha' hb' sa sb hsa hsb
  rcases tot h ha hb sa sb h1 h3 with hm | hm
  · exact key a b ha hb fa fb sa h1 hm
  · exact (key b a hb ha fb fa sb h3 hm).symm
/-- what a walk shows right beneath a node -/
def srcQ (ps : List Pl) (n : Int) : Int := if 0 ≤ pAt ps n Pl.inner (-1) then pAt ps n Pl.inner (-1) else n
def chQ (ps : List Pl) (n : Int) : List Int := pAt ps (srcQ ps n) Pl.kids []
/-- all beneath some, in order, and how deep -/
inductive Wk (ps : List Pl) : List Int → Nat → List (Int × Nat) → Prop
  | nil {d} : Wk ps [] d []
  | cons {k ks d o o2} : Wk ps (chQ ps k) (d + 1) o → Wk ps ks d o2 → Wk ps (k :: ks) d ((k, d) :: o ++ o2)
theorem Wk.unique {ps : List Pl} {ks : List Int} {d : Nat} {o o' : List (Int × Nat)} (h : Wk ps ks d o) : Wk ps ks d o' → o = o' := by
  induction h generalizing o' with
  | nil => intro h; cases h; rfl
  | cons _ _ ih1 ih2 => intro h; cases h with
    | cons a b => rw [ih1 a, ih2 b]
section
variable {ps : List Pl}
theorem Tr.ch (h : Tr ps) {i : Nat} {x : Pl} (hx : ps[i]? = some x) : ∃ (q : Nat) (y : Pl), ps[q]? = some y ∧ chQ ps i = y.kids ∧ (∀ c ∈ chQ ps i, 0 ≤ c ∧ c < ps.length ∧ abv ps c = q) ∧ (chQ ps i).Nodup ∧ (∃ l, Path (abv ps) q l ∧ (i : Int) ∈ l) := by
  have fin : ∀ (q : Nat) (y : Pl), ps[q]? = some y → ∀ c ∈ y.kids, 0 ≤ c ∧ c < ps.length ∧ abv ps c = q := by
    intro q y hy c hc
    obtain ⟨j, z, rfl, hz, hu⟩ := h.kup q y hy c hc
    have := (List.getElem?_eq_some_iff.1 hz).1
    refine ⟨by omega, by omega, ?_⟩
    unfold abv
    rw [if_neg (by omega), pAt_some hz, hu, if_pos (by omega)]
  rcases h.inn i x hx with e | ⟨e, _, y, hy, hk1⟩
  · have hs : srcQ ps i = i := by unfold srcQ; rw [pAt_some hx, e, if_neg (by omega)]
    have hc : chQ ps i = x.kids := by unfold chQ; rw [hs, pAt_some hx]
    obtain ⟨l, hl⟩ := h.ac i (List.getElem?_eq_some_iff.1 hx).1
    refine ⟨i, x, hx, hc, by rw [hc]; exact fin i x hx, by rw [hc]; exact h.nd i x hx, l, hl, ?_⟩
    cases hl with
    | cons _ _ => exact List.mem_cons_self ..
  · have hs : srcQ ps i = ((i + 1 : Nat) : Int) := by unfold srcQ; rw [pAt_some hx, e, if_pos (by omega)]; rfl
    have hc : chQ ps i = y.kids := by unfold chQ; rw [hs, pAt_some hy]
    obtain ⟨l, hl⟩ := h.ac (i + 1) (List.getElem?_eq_some_iff.1 hy).1
    have hu := (h.pg (i + 1) y hy hk1).1
    have ha : abv ps ((i + 1 : Nat) : Int) = i := by
      unfold abv
      rw [if_neg (by omega), pAt_some hy, hu, if_neg (by omega), show ((i + 1 : Nat) : Int) - 1 = (i : Nat) by omega, pAt_some hx, e, if_pos (by omega)]
    refine ⟨i + 1, y, hy, hc, by rw [hc]; exact fin (i + 1) y hy, by rw [hc]; exact h.nd _ y hy, l, hl, ?_⟩
    cases hl with
    | cons h0 h2 =>
      rw [ha] at h2
      cases h2 with
      | cons _ _ => exact List.mem_cons_of_mem _ (List.mem_cons_self ..)
/-- there is always a walk -/
theorem Tr.wk (h : Tr ps) : ∀ (N : Nat) (ks : List Int) (d : Nat), (∀ c ∈ ks, 0 ≤ c ∧ c < ps.length ∧ ∃ l, Path (abv ps) c l ∧ ps.length + 1 ≤ N + l.length) → ∃ o, Wk ps ks d o := by
  intro N
  induction N with
  | zero =>
    intro ks d hk
    cases ks with
    | nil => exact ⟨_, .nil⟩
    | cons c ks =>
      obtain ⟨h0, h1, l, hl, hle⟩ := hk c (List.mem_cons_self ..)
      have := pigeon _ l hl.nodup (h.path_in hl h1)
      omega
  | succ N ih =>
    intro ks
    induction ks with
    | nil => intro d _; exact ⟨_, .nil⟩
    | cons c ks ihk =>
      intro d hk
      obtain ⟨h0, h1, l, hl, hle⟩ := hk c (List.mem_cons_self ..)
      obtain ⟨o2, ho2⟩ := ihk d (fun c hc => hk c (List.mem_cons_of_mem _ hc))
      obtain ⟨i, rfl⟩ : ∃ i : Nat, c = i := ⟨c.toNat, by omega⟩
      obtain ⟨x, hx⟩ : ∃ x, ps[i]? = some x := ⟨_, List.getElem?_eq_getElem (by omega)⟩
      obtain ⟨q, y, hy, hc, hch, _, lq, hlq, hm⟩ := h.ch hx
      obtain ⟨o1, ho1⟩ := ih (chQ ps i) (d + 1) (fun c hc => by
        obtain ⟨a0, a1, a2⟩ := hch c hc
        refine ⟨a0, a1, c :: lq, .cons a0 (by rw [a2]; exact hlq), ?_⟩
        have := (hlq.len_of hm hl).1
        simp
        omega)
      exact ⟨_, .cons ho1 ho2⟩
/-- each node is shown once -/
theorem Wk.once (h : Tr ps) {ks : List Int} {d : Nat} {o : List (Int × Nat)} (hw : Wk ps ks d o) : ks.Nodup → (∀ c ∈ ks, 0 ≤ c ∧ c < ps.length) → (∃ p, 0 ≤ p ∧ ∀ c ∈ ks, abv ps c = p) →
    (∀ x ∈ o.map Prod.fst, 0 ≤ x ∧ x < ps.length ∧ ∃ k ∈ ks, ∃ l, Path (abv ps) x l ∧ k ∈ l) ∧ (o.map Prod.fst).Nodup := by
  induction hw with
  | nil => intro _ _ _; exact ⟨fun x hx => (by cases hx), List.nodup_nil⟩
  | @cons k ks d o o2 hw1 hw2 ih1 ih2 =>
    intro hnd hin hp
    obtain ⟨p, _, hpk⟩ := hp
    obtain ⟨hkn, hnd2⟩ := List.nodup_cons.1 hnd
    obtain ⟨k0, k1⟩ := hin k (List.mem_cons_self ..)
    obtain ⟨i, rfl⟩ : ∃ i : Nat, k = i := ⟨k.toNat, by omega⟩
    obtain ⟨x, hx⟩ : ∃ x, ps[i]? = some x := ⟨_, List.getElem?_eq_getElem (by omega)⟩
    obtain ⟨q, y, hy, hc, hch, hchn, lq, hlq, hm⟩ := h.ch hx
    obtain ⟨lk, hlk⟩ := h.ac i (by omega)
    have hkl : (i : Int) ∈ lk := by cases hlk with | cons _ _ => exact List.mem_cons_self ..
    obtain ⟨A1, B1⟩ := ih1 hchn (fun c hc => ⟨(hch c hc).1, (hch c hc).2.1⟩) ⟨(q : Int), by omega, fun c hc => (hch c hc).2.2⟩
    obtain ⟨A2, B2⟩ := ih2 hnd2 (fun c hc => hin c (List.mem_cons_of_mem _ hc)) ⟨p, by assumption, fun c hc => hpk c (List.mem_cons_of_mem _ hc)⟩
    have up1 : ∀ z ∈ o.map Prod.fst, ∃ l, Path (abv ps) z l ∧ (i : Int) ∈ l ∧ z ≠ i := by
      intro z hz
      obtain ⟨z0, z1, c, hc, l, hl, hcl⟩ := A1 z hz
      obtain ⟨c0, _, c2⟩ := hch c hc
      have hpc : Path (abv ps) c (c :: lq) := .cons c0 (by rw [c2]; exact hlq)
      have h3 := (hl.len_of hcl hpc).2.2
      refine ⟨l, hl, h3 _ (List.mem_cons_of_mem _ hm), fun e => ?_⟩
      subst e
      have h4 := hl.unique hlk
      subst h4
      have h5 := (hl.len_of hcl hpc).1
      have h6 := (hlq.len_of hm hl).1
      simp at h5
      omega
    refine ⟨?_, ?_⟩
    · intro z hz
      simp only [List.map_cons, List.map_append, List.cons_append, List.mem_cons, List.mem_append] at hz
      rcases hz with rfl | hz | hz
      · exact ⟨k0, k1, _, List.mem_cons_self .., lk, hlk, hkl⟩
      · obtain ⟨l, hl, hil, _⟩ := up1 z hz
        obtain ⟨z0, z1, _⟩ := A1 z hz
        exact ⟨z0, z1, _, List.mem_cons_self .., l, hl, hil⟩
      · obtain ⟨z0, z1, c, hc, r⟩ := A2 z hz
        exact ⟨z0, z1, c, List.mem_cons_of_mem _ hc, r⟩
    · have hno2 : ∀ z ∈ o2.map Prod.fst, ∀ l, Path (abv ps) z l → (i : Int) ∉ l := by
        intro z hz l hl hil
        obtain ⟨_, _, c, hc, l', hl', hcl⟩ := A2 z hz
        have := hl.unique hl'
        subst this
        have e := hl.one hil hcl (hpk _ (List.mem_cons_self ..)) (hpk c (List.mem_cons_of_mem _ hc))
        rw [e] at hkn
        exact hkn hc
      simp only [List.map_cons, List.map_append, List.cons_append]
      refine List.nodup_cons.2 ⟨fun hm' => ?_, ?_⟩
      · rcases List.mem_append.1 hm' with hm' | hm'
        · obtain ⟨_, _, _, hne⟩ := up1 _ hm'
          exact hne rfl
        · exact hno2 _ hm' lk hlk hkl
      · rw [List.nodup_append]
        refine ⟨B1, B2, fun a ha b hb e => ?_⟩
        subst e
        obtain ⟨l, hl, hil, _⟩ := up1 a ha
        exact hno2 a hb l hl hil
/-- the walk beneath a node: there is one, of so many at most -/
theorem Tr.walk (h : Tr ps) {i : Nat} (hi : i < ps.length) (d : Nat) : ∃ o, Wk ps (chQ ps i) d o ∧ o.length ≤ ps.length := by
  obtain ⟨x, hx⟩ : ∃ x, ps[i]? = some x := ⟨_, List.getElem?_eq_getElem hi⟩
  obtain ⟨q, y, hy, hc, hch, hchn, lq, hlq, hm⟩ := h.ch hx
  obtain ⟨o, ho⟩ := h.wk (ps.length + 1) (chQ ps i) d (fun c hc => ⟨(hch c hc).1, (hch c hc).2.1, c :: lq, .cons (hch c hc).1 (by rw [(hch c hc).2.2]; exact hlq), by omega⟩)
  obtain ⟨A, B⟩ := ho.once h hchn (fun c hc => ⟨(hch c hc).1, (hch c hc).2.1⟩) ⟨(q : Int), by omega, fun c hc => (hch c hc).2.2⟩
  have := pigeon ps.length _ B (fun z hz => ⟨(A z hz).1, (A z hz).2.1⟩)
  rw [List.length_map] at this
  exact ⟨o, ho, this⟩
end
theorem ch_pl {ns : List Nd} (h : Tr (ns.map Nd.pl)) {n : Int} (h0 : 0 ≤ n) (h1 : n < ns.length) : kdN ns (srcN ns n) = chQ (ns.map Nd.pl) n := by
  unfold chQ
  rw [kdN_pl]
  congr 1
  obtain ⟨i, rfl⟩ : ∃ i : Nat, n = i := ⟨n.toNat, by omega⟩
  obtain ⟨x, hx⟩ : ∃ x, ns[i]? = some x := ⟨_, List.getElem?_eq_getElem (by omega)⟩
  have hx' : (ns.map Nd.pl)[i]? = some x.pl := by rw [List.getElem?_map, hx]; rfl
  unfold srcN srcQ innN
  rw [atN_some hx, pAt_some hx']
  rcases h.inn i _ hx' with e | ⟨e, _⟩
  · have e2 : x.inner = -1 := e
    rw [e, e2]
    rfl
  · have e2 : x.inner = (i : Int) + 1 := e
    rw [e, e2, if_neg (by omega), if_neg (by omega), if_pos (by omega)]
/-- the program's walk is this one, where there is room for it -/
theorem Wk.vis {ns : List Nd} (h : Tr (ns.map Nd.pl)) {ks : List Int} {d : Nat} {o : List (Int × Nat)} (hw : Wk (ns.map Nd.pl) ks d o) : (∀ c ∈ ks, 0 ≤ c ∧ c < ns.length) → ∀ left, o.length ≤ left → Vis ns left ks d o (left - o.length) true := by
  induction hw with
  | nil => intro _ left _; exact Vis.nil
  | @cons k ks d o o2 hw1 hw2 ih1 ih2 =>
    intro hin left hl
    obtain ⟨k0, k1⟩ := hin k (List.mem_cons_self ..)
    have hk : inN ns k = true := by unfold inN; rw [decide_eq_true k0, decide_eq_true k1]; rfl
    simp only [List.length_append, List.length_cons] at hl
    obtain ⟨m, rfl⟩ : ∃ m, left = m + 1 := ⟨left - 1, by omega⟩
    have hch : ∀ c ∈ chQ (ns.map Nd.pl) k, 0 ≤ c ∧ c < ns.length := fun c hc => by
      obtain ⟨i, rfl⟩ : ∃ i : Nat, k = i := ⟨k.toNat, by omega⟩
      obtain ⟨x, hx⟩ : ∃ x, (ns.map Nd.pl)[i]? = some x := ⟨_, List.getElem?_eq_getElem (by rw [List.length_map]; omega)⟩
      obtain ⟨_, _, _, _, h4, _⟩ := h.ch hx
      have := h4 c hc
      rw [List.length_map] at this
      exact ⟨this.1, this.2.1⟩
    have v1 := ih1 hch m (by omega)
    rw [← ch_pl h k0 k1] at v1
    have v2 := ih2 (fun c hc => hin c (List.mem_cons_of_mem _ hc)) (m - o.length) (by omega)
    have := Vis.go hk v1 v2
    rw [show m + 1 - ((k, d) :: o ++ o2).length = m - o.length - o2.length by simp; omega]
    exact this
end Go.Proofs.Ytodlcfhkiilpgaa
