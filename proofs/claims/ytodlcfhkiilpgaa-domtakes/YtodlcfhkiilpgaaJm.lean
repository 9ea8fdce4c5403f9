/- Whether what stands beneath two nodes is the same: plain; slices.Equal of attributes; alike. -/
import Derived.Test.YtodlcfhkiilpgaaZN
import Derived.Test.YtodlcfhkiilpgaaZC
import Derived.BigQuiet
namespace Go.Proofs.Ytodlcfhkiilpgaa
open Go.RowKit Go.Lib
attribute [local go_sem] Oper.semAt_some

theorem ne_at {xs ys : List Atr} {k : Nat} {x y : Atr} (hx : xs[k]? = some x) (hy : ys[k]? = some y) (h : (sm x.1 y.1 && sm x.2 y.2) = false) : decide (xs = ys) = false := by
  refine decide_eq_false fun e => ?_
  rw [e, hy] at hx
  obtain rfl := Option.some.inj hx
  rw [sm_self, sm_self] at h
  cases h
theorem eq_at {x y : Atr} (h : (sm x.1 y.1 && sm x.2 y.2) = true) : x = y := by
  rw [Bool.and_eq_true] at h
  exact Prod.ext (sm_iff.1 h.1) (sm_iff.1 h.2)

set_option maxHeartbeats 1000000 in
theorem eq_any (xs ys : List Atr) (A B : Option Addr) (c d : Nat) (w : World) (h : RdA w A xs) (h2 : RdA w B ys) (hl : xs.length ≤ 1000000) :
    Calls Try.prog 84 #[.slice A xs.length c, .slice B ys.length d] w fun e w' => e = .returned (.bool (decide (xs = ys))) ∧ Below w.heap.size w w' := by
  have H := Lib.hid h
  have H2 := Lib.hid h2
  clear h h2
  by_cases hn : xs.length = ys.length
  · have hne : ∀ (x y : Atr) (w : World), Sem.run Try.prog (binOp .neq 54 (.agg #[.string x.1, .string x.2]) (.agg #[.string y.1, .string y.2])) w = .ok (.bool (!(sm x.1 y.1 && sm x.2 y.2))) w := neqA.1
    have hgd : ∀ (op : BinOp) (a b : Operand) (x y : Atr) (w : World), Sem.run Try.prog (eqGuard op 54 a b (.agg #[.string x.1, .string x.2]) (.agg #[.string y.1, .string y.2])) w = .ok () w := neqA.2
    have HNE := Lib.hid hne
    have HGD := Lib.hid hgd
    have HN := Lib.hid hn
    have hn2 : ((xs.length : Int) != (ys.length : Int)) = false := by simp [hn]
    have hn3 : (xs.length != ys.length) = false := by simp [hn]
    clear hne hgd hn
    go_enter Try.func84, Try.ntmps84
    go_wp2
    clear hn2 hn3
    go_loopw [13] (fun iv wr => ∃ k q : Nat, k ≤ xs.length ∧ iv = .int .i64 k ∧ wr = w.drewN q ∧ Hid (∀ j, j < k → xs[j]? = ys[j]?)) (fun iv _ => xs.length - (intOf iv).toNat)
    case atStart => exact ⟨0, 0, Nat.zero_le _, rfl, rfl, Lib.hid (fun j hj => absurd hj (Nat.not_lt_zero _))⟩
    case round =>
      obtain ⟨k, q, hk, rfl, rfl, HE⟩ := hrel
      by_cases hlt : k < xs.length
      · have hly : k < ys.length := by rw [← HN.out]; exact hlt
        have hly2 : (k : Int) < (ys.length : Int) := by omega
        obtain ⟨x, hx⟩ := get_lt hlt
        obtain ⟨y, hy⟩ := get_lt hly
        obtain ⟨b, off, rfl, hbl, c0, c1⟩ := H.out.at_ hx
        obtain ⟨b2, off2, rfl, hbl2, e0, e1⟩ := H2.out.at_ hy
        have HX := Lib.hid hx
        have HY := Lib.hid hy
        clear hx hy
        cases hq : (sm x.1 y.1 && sm x.2 y.2) with
        | true =>
          have n1 : ∀ w : World, Sem.run Try.prog (binOp .neq 54 (.agg #[.string x.1, .string x.2]) (.agg #[.string y.1, .string y.2])) w = .ok (.bool false) w := fun w => by
            rw [HNE.out x y w, hq]; rfl
          have n2 := fun (op : BinOp) (a b : Operand) (w : World) => HGD.out op a b x y w
          have HQ := Lib.hid (eq_at hq)
          clear hq
          go_wp2
          go_quiet (fail)
          go_wp2
          go_roundw
          case rel =>
            refine ⟨k + 1, _, by omega, by go_num, rfl, Lib.hid (fun j hj => ?_)⟩
            by_cases e : j = k
            · subst e
              rw [HX.out, HY.out, HQ.out]
            · exact HE.out j (by omega)
          case measure => simp [intOf]; omega
        | false =>
          have n1 : ∀ w : World, Sem.run Try.prog (binOp .neq 54 (.agg #[.string x.1, .string x.2]) (.agg #[.string y.1, .string y.2])) w = .ok (.bool true) w := fun w => by
            rw [HNE.out x y w, hq]; rfl
          have n2 := fun (op : BinOp) (a b : Operand) (w : World) => HGD.out op a b x y w
          have HQ := Lib.hid (ne_at HX.out HY.out hq)
          clear hq
          go_wp2
          go_quiet (fail)
          go_wp2
          go_ret
          exact ⟨by rw [HQ.out]; rfl, by first | exact below_drewN (Below.refl _ _) _ | exact below_drewN (below_drewN (Below.refl _ _) _) _⟩
      · obtain rfl : k = xs.length := by omega
        have he : decide (xs = ys) = true := decide_eq_true (List.ext_getElem? fun j => by
          rcases Nat.lt_or_ge j xs.length with hj | hj
          · exact HE.out j hj
          · rw [List.getElem?_eq_none hj, List.getElem?_eq_none (by rw [← HN.out]; exact hj)])
        have HQ := Lib.hid he
        clear he
        go_wp2
        go_ret
        exact ⟨by rw [HQ.out]; rfl, by first | exact below_drewN (Below.refl _ _) _ | exact below_drewN (below_drewN (Below.refl _ _) _) _⟩
  · have he : decide (xs = ys) = false := decide_eq_false (fun e => hn (by rw [e]))
    have HQ := Lib.hid he
    have hn2 : ((xs.length : Int) != (ys.length : Int)) = true := by simp; omega
    have hn3 : (xs.length != ys.length) = true := by simp; omega
    clear he hn
    go_enter Try.func84, Try.ntmps84
    go_wp2
    go_ret
    exact ⟨by rw [HQ.out]; rfl, Below.refl _ _⟩

/-- whether two nodes are the same but for what stands beneath them -/
def ndS (x y : Nd) : Bool := (x.kind == y.kind) && (x.space == y.space) && sm x.name y.name && sm x.data y.data && sm x.pub y.pub && sm x.sys y.sys && decide (x.attrs = y.attrs)
theorem ndS_comm (x y : Nd) : ndS x y = ndS y x := by
  unfold ndS
  rw [sm_comm x.name, sm_comm x.data, sm_comm x.pub, sm_comm x.sys, show (x.kind == y.kind) = (y.kind == x.kind) from Bool.beq_comm, show (x.space == y.space) = (y.space == x.space) from Bool.beq_comm, show decide (x.attrs = y.attrs) = decide (y.attrs = x.attrs) from by simp [eq_comm]]
/-- two lists of nodes held against each other, with so many left: whether they are the same, how many are left then (where they are) -/
inductive Sm (xs ys : List Nd) : Int → List Int → List Int → Bool → Int → Prop
  | nil {l} : Sm xs ys l [] [] true l
  | miss {l k ks j js l2} : (inN xs k && inN ys j) = false → (inN xs k == inN ys j) = false → Sm xs ys l (k :: ks) (j :: js) false l2
  | skip {l k ks j js b l2} : (inN xs k && inN ys j) = false → (inN xs k == inN ys j) = true → Sm xs ys l ks js b l2 → Sm xs ys l (k :: ks) (j :: js) b l2
  | out {l k ks j js l2} : inN xs k = true → inN ys j = true → l ≤ 0 → Sm xs ys l (k :: ks) (j :: js) false l2
  | unlike {l k ks j js x y l2} : xs[k.toNat]? = some x → ys[j.toNat]? = some y → inN xs k = true → inN ys j = true → 0 < l → (ndS x y && x.kids.length == y.kids.length) = false → Sm xs ys l (k :: ks) (j :: js) false l2
  | kids {l k ks j js x y l2 l5} : xs[k.toNat]? = some x → ys[j.toNat]? = some y → inN xs k = true → inN ys j = true → 0 < l → ndS x y = true → x.kids.length = y.kids.length → Sm xs ys (l - 1) x.kids y.kids false l2 → Sm xs ys l (k :: ks) (j :: js) false l5
  | inner {l k ks j js x y l2 l3 l5} : xs[k.toNat]? = some x → ys[j.toNat]? = some y → inN xs k = true → inN ys j = true → 0 < l → ndS x y = true → x.kids.length = y.kids.length → Sm xs ys (l - 1) x.kids y.kids true l2 → Sm xs ys l2 [innN xs k] [innN ys j] false l3 → Sm xs ys l (k :: ks) (j :: js) false l5
  | go {l k ks j js x y l2 l3 b l4} : xs[k.toNat]? = some x → ys[j.toNat]? = some y → inN xs k = true → inN ys j = true → 0 < l → ndS x y = true → x.kids.length = y.kids.length → Sm xs ys (l - 1) x.kids y.kids true l2 → Sm xs ys l2 [innN xs k] [innN ys j] true l3 → Sm xs ys l3 ks js b l4 → Sm xs ys l (k :: ks) (j :: js) b l4
theorem Sm.le {xs ys : List Nd} {l l2 : Int} {ks js : List Int} {b : Bool} (h : Sm xs ys l ks js b l2) : b = true → l2 ≤ l := by
  induction h with
  | nil => intro _; omega
  | skip _ _ _ ih => exact ih
  | go _ _ _ _ _ _ _ _ _ _ ih1 ih2 ih3 => intro h; have := ih1 rfl; have := ih2 rfl; have := ih3 h; omega
  | _ => intro h; cases h
theorem inN_get {ns : List Nd} {n : Int} (h : inN ns n = true) : ∃ x, ns[n.toNat]? = some x := by
  unfold inN at h
  simp only [Bool.and_eq_true, decide_eq_true_eq] at h
  exact ⟨ns[n.toNat]'(by omega), List.getElem?_eq_getElem (by omega)⟩
/-- there is always one -/
theorem Sm.ex (xs ys : List Nd) : ∀ (N : Nat) (l : Int) (ks js : List Int), l.toNat ≤ N → ks.length = js.length → ∃ b l2, Sm xs ys l ks js b l2 := by
  intro N
  induction N using Nat.strongRecOn with
  | _ N ih =>
    intro l ks
    induction ks generalizing l with
    | nil =>
      intro js _ h
      obtain rfl := List.eq_nil_of_length_eq_zero h.symm
      exact ⟨_, _, .nil⟩
    | cons k ks ihk =>
      intro js hN h
      match js, h with
      | j :: js, h =>
      have h : ks.length = js.length := by simpa using h
      cases hb : (inN xs k && inN ys j) with
      | false =>
        cases he : (inN xs k == inN ys j) with
        | false => exact ⟨_, l, .miss hb he⟩
        | true =>
          obtain ⟨b, l2, h2⟩ := ihk l js hN h
          exact ⟨_, _, .skip hb he h2⟩
      | true =>
        rw [Bool.and_eq_true] at hb
        obtain ⟨h1, h2⟩ := hb
        obtain ⟨x, hx⟩ := inN_get h1
        obtain ⟨y, hy⟩ := inN_get h2
        by_cases h0 : l ≤ 0
        · exact ⟨_, l, .out h1 h2 h0⟩
        · cases ha : (ndS x y && x.kids.length == y.kids.length) with
          | false => exact ⟨_, l, .unlike hx hy h1 h2 (by omega) ha⟩
          | true =>
            rw [Bool.and_eq_true, beq_iff_eq] at ha
            obtain ⟨b1, l1, g1⟩ := ih (l - 1).toNat (by omega) (l - 1) x.kids y.kids (Nat.le_refl _) ha.2
            cases b1 with
            | false => exact ⟨_, l, .kids hx hy h1 h2 (by omega) ha.1 ha.2 g1⟩
            | true =>
              have e1 := g1.le rfl
              obtain ⟨b2, l2, g2⟩ := ih l1.toNat (by omega) l1 [innN xs k] [innN ys j] (Nat.le_refl _) rfl
              cases b2 with
              | false => exact ⟨_, l, .inner hx hy h1 h2 (by omega) ha.1 ha.2 g1 g2⟩
              | true =>
                have e2 := g2.le rfl
                obtain ⟨b3, l3, g3⟩ := ih l2.toNat (by omega) l2 ks js (Nat.le_refl _) h
                exact ⟨_, _, .go hx hy h1 h2 (by omega) ha.1 ha.2 g1 g2 g3⟩
/-- two that are the same take as many, however many are left -/
theorem Sm.took {xs ys : List Nd} {l l2 : Int} {ks js : List Int} {b : Bool} (h : Sm xs ys l ks js b l2) : b = true → ∀ l' l2', Sm xs ys l' ks js true l2' → l' - l2' = l - l2 := by
  induction h with
  | nil => intro _ l' l2' h; cases h; omega
  | @skip l k ks j js b l2 h1 h2 _ ih =>
    intro hb l' l2' h
    cases h with
    | skip _ _ g => exact ih hb _ _ g
    | go _ _ a1 a2 => rw [a1, a2] at h1; cases h1
  | @go l k ks j js x y l2 l3 b l4 h1 h2 h3 h4 h5 h6 h7 g1 g2 g3 ih1 ih2 ih3 =>
    intro hb l' l2' h
    cases h with
    | skip a1 _ g => rw [h3, h4] at a1; cases a1
    | go b1 b2 _ _ _ _ _ f1 f2 f3 =>
      rw [h1] at b1
      rw [h2] at b2
      cases b1
      cases b2
      have e1 := ih1 rfl _ _ f1
      have e2 := ih2 rfl _ _ f2
      have e3 := ih3 hb _ _ f3
      omega
  | _ => intro h; cases h
/-- two that are unlike are so where fewer are left -/
theorem Sm.less {xs ys : List Nd} {l l2 : Int} {ks js : List Int} {b : Bool} (h : Sm xs ys l ks js b l2) : b = false → ∀ l' b' l2', l' ≤ l → Sm xs ys l' ks js b' l2' → b' = false := by
  induction h with
  | nil => intro h; cases h
  | @miss l k ks j js l2 h1 h2 =>
    intro _ l' b' l2' _ h
    cases h with
    | skip _ a _ => rw [h2] at a; cases a
    | go _ _ a1 a2 => rw [a1, a2] at h1; cases h1
    | _ => rfl
  | @skip l k ks j js b l2 h1 h2 _ ih =>
    intro hb l' b' l2' hl h
    cases h with
    | skip _ _ g => exact ih hb _ _ _ hl g
    | go _ _ a1 a2 => rw [a1, a2] at h1; cases h1
    | _ => rfl
  | @out l k ks j js l2 h1 h2 h3 =>
    intro _ l' b' l2' hl h
    cases h with
    | skip a _ _ => rw [h1, h2] at a; cases a
    | go _ _ _ _ a => omega
    | _ => rfl
  | @unlike l k ks j js x y l2 h1 h2 h3 h4 h5 h6 =>
    intro _ l' b' l2' hl h
    cases h with
    | skip a _ _ => rw [h3, h4] at a; cases a
    | go b1 b2 _ _ _ a1 a2 =>
      rw [h1] at b1
      rw [h2] at b2
      cases b1
      cases b2
      rw [a1, a2] at h6
      simp at h6
    | _ => rfl
  | @kids l k ks j js x y l2 l5 h1 h2 h3 h4 h5 h6 h7 g ih =>
    intro _ l' b' l2' hl h
    cases h with
    | skip a _ _ => rw [h3, h4] at a; cases a
    | go b1 b2 _ _ _ _ _ f1 =>
      rw [h1] at b1
      rw [h2] at b2
      cases b1
      cases b2
      have := ih rfl _ _ _ (by omega) f1
      cases this
    | _ => rfl
  | @inner l k ks j js x y l2 l3 l5 h1 h2 h3 h4 h5 h6 h7 g1 g2 ih1 ih2 =>
    intro _ l' b' l2' hl h
    cases h with
    | skip a _ _ => rw [h3, h4] at a; cases a
    | go b1 b2 _ _ _ _ _ f1 f2 =>
      rw [h1] at b1
      rw [h2] at b2
      cases b1
      cases b2
      have e := g1.took rfl _ _ f1
      have := ih2 rfl _ _ _ (by omega) f2
      cases this
    | _ => rfl
  | @go l k ks j js x y l2 l3 b l4 h1 h2 h3 h4 h5 h6 h7 g1 g2 g3 ih1 ih2 ih3 =>
    intro hb l' b' l2' hl h
    cases h with
    | skip a _ _ => rw [h3, h4] at a; cases a
    | go b1 b2 _ _ _ _ _ f1 f2 f3 =>
      rw [h1] at b1
      rw [h2] at b2
      cases b1
      cases b2
      have e := g1.took rfl _ _ f1
      have e2 := g2.took rfl _ _ f2
      exact ih3 hb _ _ _ (by omega) f3
    | _ => rfl
/-- one pair, and what follows -/
theorem Sm.head {xs ys : List Nd} {l l2 : Int} {k j : Int} {ks js : List Int} {b : Bool} (h : Sm xs ys l (k :: ks) (j :: js) b l2) : ∃ b1 l1, Sm xs ys l [k] [j] b1 l1 ∧ (b1 = false → b = false) ∧ (b1 = true → Sm xs ys l1 ks js b l2) := by
  cases h with
  | miss h1 h2 => exact ⟨false, l, .miss h1 h2, fun _ => rfl, fun h => by cases h⟩
  | skip h1 h2 h3 => exact ⟨true, l, .skip h1 h2 .nil, fun h => (by cases h), fun _ => h3⟩
  | out h1 h2 h3 => exact ⟨false, l, .out h1 h2 h3, fun _ => rfl, fun h => by cases h⟩
  | unlike h1 h2 h3 h4 h5 h6 => exact ⟨false, l, .unlike h1 h2 h3 h4 h5 h6, fun _ => rfl, fun h => by cases h⟩
  | kids h1 h2 h3 h4 h5 h6 h7 h8 => exact ⟨false, l, .kids h1 h2 h3 h4 h5 h6 h7 h8, fun _ => rfl, fun h => by cases h⟩
  | inner h1 h2 h3 h4 h5 h6 h7 h8 h9 => exact ⟨false, l, .inner h1 h2 h3 h4 h5 h6 h7 h8 h9, fun _ => rfl, fun h => by cases h⟩
  | go h1 h2 h3 h4 h5 h6 h7 h8 h9 h10 => exact ⟨true, _, .go h1 h2 h3 h4 h5 h6 h7 h8 h9 .nil, fun h => (by cases h), fun _ => h10⟩
/-- a node's contents, as a list -/
def innL (ns : List Nd) (n : Int) : List Int := if innN ns n = -1 then [] else [innN ns n]
/-- a list of nodes and one of their copies; how many nodes these are, with all beneath them -/
inductive Cp (xs ys : List Nd) : List Int → List Int → Nat → Prop
  | nil : Cp xs ys [] [] 0
  | cons {k ks j js x y a b c} : xs[k.toNat]? = some x → ys[j.toNat]? = some y → inN xs k = true → inN ys j = true → ndS x y = true → Cp xs ys x.kids y.kids a → Cp xs ys (innL xs k) (innL ys j) b → Cp xs ys ks js c → Cp xs ys (k :: ks) (j :: js) (1 + a + b + c)
theorem Cp.len {xs ys : List Nd} {ks js : List Int} {c : Nat} (h : Cp xs ys ks js c) : ks.length = js.length := by
  induction h with
  | nil => rfl
  | cons _ _ _ _ _ _ _ _ _ _ ih => simp [ih]
theorem Cp.symm {xs ys : List Nd} {ks js : List Int} {c : Nat} (h : Cp xs ys ks js c) : Cp ys xs js ks c := by
  induction h with
  | nil => exact .nil
  | cons h1 h2 h3 h4 h5 _ _ _ ih1 ih2 ih3 => exact .cons h2 h1 h4 h3 (by rw [ndS_comm]; exact h5) ih1 ih2 ih3
theorem innL_len {xs ys : List Nd} {k j : Int} (h : (innL xs k).length = (innL ys j).length) : (innN xs k = -1 ∧ innN ys j = -1) ∨ (innN xs k ≠ -1 ∧ innN ys j ≠ -1) := by
  unfold innL at h
  by_cases h1 : innN xs k = -1
  · by_cases h2 : innN ys j = -1
    · exact .inl ⟨h1, h2⟩
    · rw [if_pos h1, if_neg h2] at h; simp at h
  · by_cases h2 : innN ys j = -1
    · rw [if_neg h1, if_pos h2] at h; simp at h
    · exact .inr ⟨h1, h2⟩
theorem inN_neg (ns : List Nd) : inN ns (-1) = false := by
  unfold inN
  rw [decide_eq_false (by omega)]
  rfl
theorem Cp.sm {xs ys : List Nd} {ks js : List Int} {c : Nat} (h : Cp xs ys ks js c) : ∀ l : Int, (c : Int) ≤ l → Sm xs ys l ks js true (l - c) := by
  induction h with
  | nil => intro l _; rw [show l - ((0 : Nat) : Int) = l by omega]; exact .nil
  | @cons k ks j js x y a b c h1 h2 h3 h4 h5 g1 g2 g3 ih1 ih2 ih3 =>
    intro l hl
    have e1 := ih1 (l - 1) (by omega)
    have e3 := ih3 (l - 1 - a - b) (by omega)
    have e2 : Sm xs ys (l - 1 - a) [innN xs k] [innN ys j] true (l - 1 - a - b) := by
      have e2 := ih2 (l - 1 - a) (by omega)
      rcases innL_len g2.len with ⟨p, q⟩ | ⟨p, q⟩
      · have hb : b = 0 := by
          unfold innL at g2
          rw [if_pos p, if_pos q] at g2
          cases g2
          rfl
        rw [p, q, hb, show l - 1 - (a : Int) - ((0 : Nat) : Int) = l - 1 - a by omega]
        exact .skip (by rw [inN_neg]; rfl) (by rw [inN_neg, inN_neg]; rfl) .nil
      · unfold innL at e2
        rwa [if_neg p, if_neg q] at e2
    rw [show l - ((1 + a + b + c : Nat) : Int) = l - 1 - a - b - c by omega]
    exact .go h1 h2 h3 h4 (by omega) h5 g1.len e1 e2 e3

set_option maxHeartbeats 8000000 in
set_option maxRecDepth 100000 in
theorem alike_any (x y : Nd) (w : World) (h : RdA w x.aA x.attrs) (h2 : RdA w y.aA y.attrs) (hl : x.attrs.length ≤ 1000000) :
    Calls Try.prog 60 #[.agg x.cs.toArray, .agg y.cs.toArray] w fun e w' => e = .returned (.bool (ndS x y)) ∧ Below w.heap.size w w' := by
  obtain ⟨kind, space, name, data, aA, attrs, ac, pub, sys, up, kv, kids, inner⟩ := x
  obtain ⟨kind', space', name', data', aA', attrs', ac', pub', sys', up', kv', kids', inner'⟩ := y
  show Calls Try.prog 60 #[.agg #[.int .i64 kind, .int .i64 space, .string name, .string data, .slice aA attrs.length ac, .string pub, .string sys, .int .i64 up, kv, .int .i64 inner], .agg #[.int .i64 kind', .int .i64 space', .string name', .string data', .slice aA' attrs'.length ac', .string pub', .string sys', .int .i64 up', kv', .int .i64 inner']] w fun e w' => e = .returned (.bool ((kind == kind') && (space == space') && (name.toList == name'.toList) && (data.toList == data'.toList) && (pub.toList == pub'.toList) && (sys.toList == sys'.toList) && decide (attrs = attrs'))) ∧ Below w.heap.size w w'
  simp only at h h2 hl
  have hbb : Below w.heap.size w ((w.alloc (.cells #[.int .i64 kind, .int .i64 space, .string name, .string data, .slice aA attrs.length ac, .string pub, .string sys, .int .i64 up, kv, .int .i64 inner] 29)).alloc (.cells #[.int .i64 kind', .int .i64 space', .string name', .string data', .slice aA' attrs'.length ac', .string pub', .string sys', .int .i64 up', kv', .int .i64 inner'] 29)) := ((Below.refl _ w).alloc (Nat.le_refl _) _).alloc (by simp) _
  have KE := Lib.hid (eq_any attrs attrs' aA aA' ac ac' ((w.alloc (.cells #[.int .i64 kind, .int .i64 space, .string name, .string data, .slice aA attrs.length ac, .string pub, .string sys, .int .i64 up, kv, .int .i64 inner] 29)).alloc (.cells #[.int .i64 kind', .int .i64 space', .string name', .string data', .slice aA' attrs'.length ac', .string pub', .string sys', .int .i64 up', kv', .int .i64 inner'] 29)) (h.below hbb) (h2.below hbb) hl)
  have HBB := Lib.hid hbb
  obtain ⟨D, hD⟩ : ∃ D, decide (attrs = attrs') = D := ⟨_, rfl⟩
  rw [hD] at KE ⊢
  obtain ⟨R, hR⟩ : ∃ R, ((kind == kind') && (space == space') && (name.toList == name'.toList) && (data.toList == data'.toList) && (pub.toList == pub'.toList) && (sys.toList == sys'.toList) && D) = R := ⟨_, rfl⟩
  rw [hR]
  have HR := Lib.hid hR.symm
  clear hR hD hbb h h2
  cases q0 : (kind == kind') with
  | false =>
    rw [q0] at HR
    have hR : R = false := by rw [HR.out]; simp
    subst hR
    clear KE HR
    go_enter Try.func60, Try.ntmps60
    go_wp2
    go_ret
    exact ⟨rfl, HBB.out⟩
  | true =>
    rw [q0] at HR
    cases q1 : (space == space') with
    | false =>
      rw [q1] at HR
      have hR : R = false := by rw [HR.out]; simp
      subst hR
      clear KE HR
      go_enter Try.func60, Try.ntmps60
      go_wp2
      go_ret
      exact ⟨rfl, HBB.out⟩
    | true =>
      rw [q1] at HR
      cases q2 : (name.toList == name'.toList) with
      | false =>
        rw [q2] at HR
        have hR : R = false := by rw [HR.out]; simp
        subst hR
        clear KE HR
        go_enter Try.func60, Try.ntmps60
        go_wp2
        go_ret
        exact ⟨rfl, HBB.out⟩
      | true =>
        rw [q2] at HR
        cases q3 : (data.toList == data'.toList) with
        | false =>
          rw [q3] at HR
          have hR : R = false := by rw [HR.out]; simp
          subst hR
          clear KE HR
          go_enter Try.func60, Try.ntmps60
          go_wp2
          go_ret
          exact ⟨rfl, HBB.out⟩
        | true =>
          rw [q3] at HR
          cases q4 : (pub.toList == pub'.toList) with
          | false =>
            rw [q4] at HR
            have hR : R = false := by rw [HR.out]; simp
            subst hR
            clear KE HR
            go_enter Try.func60, Try.ntmps60
            go_wp2
            go_ret
            exact ⟨rfl, HBB.out⟩
          | true =>
            rw [q4] at HR
            cases q5 : (sys.toList == sys'.toList) with
            | false =>
              rw [q5] at HR
              have hR : R = false := by rw [HR.out]; simp
              subst hR
              clear KE HR
              go_enter Try.func60, Try.ntmps60
              go_wp2
              go_ret
              exact ⟨rfl, HBB.out⟩
            | true =>
              rw [q5] at HR
              have hR : R = D := by rw [HR.out]; simp
              subst hR
              clear HR
              go_enter Try.func60, Try.ntmps60
              go_wp2_with fail
              refine KE.out.mono ?_
              rintro e w2 ⟨rfl, hb2⟩
              go_wp2
              go_ret
              exact ⟨rfl, HBB.out.trans (hb2.mono HBB.out.size)⟩
end Go.Proofs.Ytodlcfhkiilpgaa
