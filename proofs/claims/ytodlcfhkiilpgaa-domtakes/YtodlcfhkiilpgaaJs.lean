/- Say, where only a text that grows need be small; Add of whatever node. -/
import Derived.Test.YtodlcfhkiilpgaaZF
import Derived.Test.YtodlcfhkiilpgaaZD
import Derived.Test.YtodlcfhkiilpgaaJr
namespace Go.Proofs.Ytodlcfhkiilpgaa
open Go.RowKit Go.Shelf Go.Lib

section
variable {base D : Nat} {v : Value} {qk : Bool} {ns ns' ns'' : List Nd} {W W' W'' : World}
set_option maxHeartbeats 4000000 in
theorem say_anyK (up : Int) (s : ByteArray) (before : Int) (W : World) (h : DocM base D v qk ns W) (hl : ns.length < 10000) (hkd : ∀ x ∈ ns, x.kids.length < 1000000) (hz : ∀ x ∈ ns, x.kind = 3 → x.data.size + s.size ≤ 1000000000) :
    Calls Try.prog 15 #[.pointer (some ⟨D, 0, none⟩), .int .i64 up, .string s, .int .i64 before] W (SayPost base D v qk ns up s before W) := by
  have KS := Lib.hid (has_any up W h)
  have KP := Lib.hid (dplace_any up before W h)
  have HRF := Lib.hid (Trnd.refl h).adds
  cases hu : inN ns up with
  | false =>
    rw [hu] at KS
    have HR : Hid (SayR ns up s before ns 1) := Lib.hid (.arg (.inl hu))
    clear h hu KP hkd hz
    go_enter Try.func15, Try.ntmps15
    go_wp2_with fail
    refine KS.out.mono ?_
    rintro e w1 ⟨rfl, rfl⟩
    go_wp2
    go_ret
    exact ⟨_, _, HR.out, rfl, HRF.out⟩
  | true =>
    rw [hu] at KS
    cases hs : s.toList.isEmpty with
    | true =>
      have hse := List.isEmpty_iff.1 hs
      have HR : Hid (SayR ns up s before ns 1) := Lib.hid (.arg (.inr hse))
      clear h hu KP hkd hz
      go_enter Try.func15, Try.ntmps15
      go_wp2_with fail
      refine KS.out.mono ?_
      rintro e w1 ⟨rfl, rfl⟩
      go_wp2
      go_ret
      exact ⟨_, _, HR.out, rfl, HRF.out⟩
    | false =>
      have hse : ¬ s.toList = [] := fun e => by rw [e] at hs; cases hs
      cases hp : plcB ns up before with
      | false =>
        rw [hp] at KP
        have HR : Hid (SayR ns up s before ns 4) := Lib.hid (.miss hu hse hp)
        clear h hu hp hkd hz
        go_enter Try.func15, Try.ntmps15
        go_wp2_with fail
        refine KS.out.mono ?_
        rintro e w1 ⟨rfl, rfl⟩
        go_wp2_with fail
        refine KP.out.mono ?_
        rintro e w1 ⟨rfl, rfl⟩
        go_wp2
        go_ret
        exact ⟨_, _, HR.out, rfl, HRF.out⟩
      | true =>
        rw [hp] at KP
        obtain ⟨p, y, rfl, hy⟩ := inN_at hu
        have hpl := (List.getElem?_eq_some_iff.1 hy).1
        obtain ⟨Av, c, hv, hle, hmx, hgv⟩ := h.sl
        obtain ⟨g, rfl, hbg, hgl⟩ := hgv (by omega)
        subst hv
        have hkdN : kdN ns (p : Int) = y.kids := atN_some hy
        obtain ⟨k, hk, hkl⟩ := plc_self hp
        rw [hkdN] at hkl
        rw [hk] at KP
        have hbs : base ≤ W.heap.size := by have := h.ge; have := h.lt; omega
        have KA0 := add_plain (txN s) h hbs rfl (by omega) (.inl rfl) (fun _ => rfl) (Nat.zero_le _)
        have HU := Lib.hid hu
        have HPB := Lib.hid hp
        have HKD := Lib.hid hkd
        have KA : Hid _ := Lib.hid KA0
        rw [show (txN s).cs.toArray = #[.int .i64 3, .int .i64 0, .string ⟨#[]⟩, .string s, .slice none 0 0, .string ⟨#[]⟩, .string ⟨#[]⟩, .int .i64 0, .slice none 0 0, .int .i64 0] from rfl] at KA
        clear KA0
        cases k with
        | zero =>
          have HSN : Hid (sayN ns (p : Int) before = none) := Lib.hid (by unfold sayN; rw [hk]; rfl)
          clear h hu hp hkd hz hy hk hkdN hgv HRF
          go_enter Try.func15, Try.ntmps15
          go_wp2_with fail
          refine KS.out.mono ?_
          rintro e w1 ⟨rfl, rfl⟩
          go_wp2_with fail
          refine KP.out.mono ?_
          rintro e w1 ⟨rfl, rfl⟩
          go_wp2_with fail
          refine KA.out.mono ?_
          rintro e w2 ⟨rfl, A2, c2, v2, hd2, hf2, hn2⟩
          have KPut := Lib.hid (put_any (p : Int) (ns.length : Int) before w2 hd2 (by simp; omega) (fun x hx => by
            rw [List.mem_append] at hx
            rcases hx with hx | hx
            · exact HKD.out x hx
            · rw [List.mem_singleton] at hx; subst hx; exact Nat.zero_lt_succ _))
          have HA2 : Hid (Adds base D (.slice (some ⟨g, 0, none⟩) ns.length c) qk ns (ns ++ [aloneNd (txN s) A2 c2]) w1 w2 ∧ DocM base D v2 qk (ns ++ [aloneNd (txN s) A2 c2]) w2) := Lib.hid ⟨⟨v2, hd2, hf2, hn2⟩, hd2⟩
          have HF2 := Lib.hid hf2
          have HN2 := Lib.hid hn2
          have dn : ((ns.length : Int) == -1) = false := by rw [beq_eq_false_iff_ne]; omega
          clear hd2 hf2 hn2
          go_wp2_with fail
          refine KPut.out.mono ?_
          rintro e w3 ⟨u1, u2, rfl, hT⟩
          have HT := Lib.hid hT
          clear hT
          go_wp2
          go_ret
          exact ⟨_, _, .new A2 c2 u1 u2 HU.out hse HPB.out HSN.out, rfl, v2, HT.out.1, HF2.out.trans' HT.out.2.1 HN2.out, fun q hq => by
            rcases HT.out.2.2 q hq with h | h
            · exact HN2.out q h
            · exact .inr (Nat.le_trans HF2.out.size h)⟩
        | succ j =>
          obtain ⟨l, hlj⟩ : ∃ l, y.kids[j]? = some l := ⟨_, List.getElem?_eq_getElem (by omega)⟩
          obtain ⟨c0, _, _⟩ := h.cells
          obtain ⟨_, c8, _, _⟩ := h.node hy
          obtain ⟨A, cK, e1, _, hKle, _, hr⟩ := Rd.own (h.kids p y hy)
          rw [e1] at c8
          obtain ⟨b, off, rfl, hb, hcell⟩ := hr.pos (by omega)
          have cj := hcell j (by omega)
          rw [hlj] at cj
          have cj : W.cell? ⟨b, off + j, none⟩ = some (.int .i64 l) := cj
          have KK := Lib.hid (kind_any l W h)
          obtain ⟨kz, hkz⟩ : ∃ k, atN ns l Nd.kind 0 = k := ⟨_, rfl⟩
          rw [hkz] at KK
          have dj : decide ((0 : Int) < ((j + 1 : Nat) : Int)) = true := decide_eq_true (by omega)
          have dj' : decide ((0 : Int) < (j : Int) + 1) = true := decide_eq_true (by omega)
          have hjk : j < y.kids.length := by omega
          have hj6 : j < 1000000 := by have := hkd y (List.mem_of_getElem? hy); omega
          by_cases h3 : kz = 3
          · have d3 : (kz == 3) = true := by rw [h3]; rfl
            have hlin : inN ns l = true := by
              cases hq : inN ns l with
              | true => rfl
              | false => rw [atN_none hq] at hkz; omega
            obtain ⟨q, z, rfl, hzq⟩ := inN_at hlin
            have hql := (List.getElem?_eq_some_iff.1 hzq).1
            have HSN : Hid (sayN ns (p : Int) before = some q) := Lib.hid (by
              unfold sayN
              rw [hk, if_pos (by omega), hkdN, Int.toNat_natCast, Nat.add_sub_cancel, hlj]
              show (if (atN ns (q : Int) Nd.kind 0 == 3) = true then some _ else none) = _
              rw [hkz, d3, if_pos rfl, Int.toNat_natCast])
            have cd : W.cell? ⟨g, q * 10 + 3, none⟩ = some (.string z.data) := h.cell hzq (by omega)
            have fd : W.frozen? ⟨g, q * 10 + 3, none⟩ = false := h.row.frozenAt _
            have HT := Lib.hid (h.data_ hzq s)
            have hzs := hz z (List.mem_of_getElem? hzq) (by rw [atN_some hzq] at hkz; exact hkz.trans h3)
            clear h hu hp hkd hz hy hk hkdN hgv HRF KA hlj hzq hkz h3 hr hcell e1 hlin
            go_enter Try.func15, Try.ntmps15
            go_wp2_with fail
            refine KS.out.mono ?_
            rintro e w1 ⟨rfl, rfl⟩
            go_wp2_with fail
            refine KP.out.mono ?_
            rintro e w1 ⟨rfl, rfl⟩
            go_wp2_with fail
            refine KK.out.mono ?_
            rintro e w1 ⟨rfl, rfl⟩
            go_wp2
            go_ret
            exact ⟨_, _, .grow q HU.out hse HPB.out HSN.out, rfl, HT.out.adds⟩
          · have d3 : (kz == 3) = false := by rw [beq_eq_false_iff_ne]; exact h3
            have HSN : Hid (sayN ns (p : Int) before = none) := Lib.hid (by
              unfold sayN
              rw [hk, if_pos (by omega), hkdN, Int.toNat_natCast, Nat.add_sub_cancel, hlj]
              show (if (atN ns l Nd.kind 0 == 3) = true then some _ else none) = _
              rw [hkz, d3]; rfl)
            clear h hu hp hkd hz hy hk hkdN hgv HRF hlj hkz h3 hr hcell e1
            go_enter Try.func15, Try.ntmps15
            go_wp2_with fail
            refine KS.out.mono ?_
            rintro e w1 ⟨rfl, rfl⟩
            go_wp2_with fail
            refine KP.out.mono ?_
            rintro e w1 ⟨rfl, rfl⟩
            go_wp2_with fail
            refine KK.out.mono ?_
            rintro e w1 ⟨rfl, rfl⟩
            go_wp2_with fail
            refine KA.out.mono ?_
            rintro e w2 ⟨rfl, A2, c2, v2, hd2, hf2, hn2⟩
            have KPut := Lib.hid (put_any (p : Int) (ns.length : Int) before w2 hd2 (by simp; omega) (fun x hx => by
              rw [List.mem_append] at hx
              rcases hx with hx | hx
              · exact HKD.out x hx
              · rw [List.mem_singleton] at hx; subst hx; exact Nat.zero_lt_succ _))
            have HA2 : Hid (Adds base D (.slice (some ⟨g, 0, none⟩) ns.length c) qk ns (ns ++ [aloneNd (txN s) A2 c2]) w1 w2 ∧ DocM base D v2 qk (ns ++ [aloneNd (txN s) A2 c2]) w2) := Lib.hid ⟨⟨v2, hd2, hf2, hn2⟩, hd2⟩
            have HF2 := Lib.hid hf2
            have HN2 := Lib.hid hn2
            have dn : ((ns.length : Int) == -1) = false := by rw [beq_eq_false_iff_ne]; omega
            clear hd2 hf2 hn2
            go_wp2_with fail
            refine KPut.out.mono ?_
            rintro e w3 ⟨u1, u2, rfl, hT⟩
            have HT := Lib.hid hT
            clear hT
            go_wp2
            go_ret
            exact ⟨_, _, .new A2 c2 u1 u2 HU.out hse HPB.out HSN.out, rfl, v2, HT.out.1, HF2.out.trans' HT.out.2.1 HN2.out, fun q hq => by
              rcases HT.out.2.2 q hq with h | h
              · exact HN2.out q h
              · exact .inr (Nat.le_trans HF2.out.size h)⟩

end
/-- the nodes that come by an Add -/
def nwN (m : Nat) (n : Nd) (A : Option Addr) (c : Nat) : List Nd := if tplB n then [tplNd n A c m, pageNd] else [aloneNd n A c]
theorem add_any {base D : Nat} {v : Value} {qk : Bool} {ns : List Nd} {W : World} (n : Nd) (h : DocM base D v qk ns W) (hb : base ≤ W.heap.size) (hl : ns.length + 1 < 20000) (hr : RdA W n.aA n.attrs) (hA : n.aA = none → n.attrs = []) (hal : n.attrs.length ≤ 1000000) :
    Calls Try.prog 13 #[.pointer (some ⟨D, 0, none⟩), .agg n.cs.toArray] W fun e W' => e = .returned (.int .i64 ns.length) ∧ ∃ A c, Adds base D v qk ns (ns ++ nwN ns.length n A c) W W' := by
  cases ht : tplB n with
  | false =>
    have e : ∀ A c, nwN ns.length n A c = [aloneNd n A c] := fun A c => by unfold nwN; rw [ht]; rfl
    simp only [e]
    exact add_plain n h hb ht (by omega) hr hA hal
  | true =>
    have e : ∀ A c, nwN ns.length n A c = [tplNd n A c ns.length, pageNd] := fun A c => by unfold nwN; rw [ht]; rfl
    simp only [e]
    exact add_tpl n h hb ht hl hr hA hal
/-- a node that came, and what it is -/
theorem nw_get (ns : List Nd) (n : Nd) (A : Option Addr) (c : Nat) : ∃ x, (ns ++ nwN ns.length n A c)[ns.length]? = some x ∧ x.kind = n.kind ∧ x.space = n.space ∧ x.name = n.name ∧ x.data = n.data ∧ x.attrs = n.attrs ∧ x.pub = n.pub ∧ x.sys = n.sys ∧ x.kids = [] ∧
    (tplB n = false → x.inner = -1) ∧ (tplB n = true → x.inner = ((ns.length + 1 : Nat) : Int) ∧ (ns ++ nwN ns.length n A c)[ns.length + 1]? = some pageNd) := by
  unfold nwN
  cases ht : tplB n with
  | false =>
    refine ⟨aloneNd n A c, ?_, rfl, rfl, rfl, rfl, rfl, rfl, rfl, rfl, fun _ => rfl, fun h => (by cases h)⟩
    rw [List.getElem?_append_right (Nat.le_refl _), Nat.sub_self]
    rfl
  | true =>
    refine ⟨tplNd n A c ns.length, ?_, rfl, rfl, rfl, rfl, rfl, rfl, rfl, rfl, fun h => (by cases h), fun _ => ⟨?_, ?_⟩⟩
    · rw [List.getElem?_append_right (Nat.le_refl _), Nat.sub_self]
      rfl
    · show (ns.length : Int) + 1 = _
      omega
    · rw [List.getElem?_append_right (by omega), Nat.add_sub_cancel_left]
      rfl
theorem nw_len (m : Nat) (n : Nd) (A : Option Addr) (c : Nat) : (nwN m n A c).length = if tplB n then 2 else 1 := by unfold nwN; cases tplB n <;> rfl
theorem ndS_eq {x y : Nd} (h1 : x.kind = y.kind) (h2 : x.space = y.space) (h3 : x.name = y.name) (h4 : x.data = y.data) (h5 : x.attrs = y.attrs) (h6 : x.pub = y.pub) (h7 : x.sys = y.sys) : ndS x y = true := by
  unfold ndS
  rw [h1, h2, h3, h4, h5, h6, h7, sm_self, sm_self, sm_self, sm_self]
  simp
/-- two nodes that came by Add and are made alike are the same -/
theorem nw_same (xs ys : List Nd) (n m : Nd) (A B : Option Addr) (c d : Nat) (hx0 : xs.length = 1) (h1 : n.kind = m.kind) (h2 : n.space = m.space) (h3 : n.name = m.name) (h4 : n.data = m.data) (h5 : n.attrs = m.attrs) (h6 : n.pub = m.pub) (h7 : n.sys = m.sys) :
    ∃ l, Sm (xs ++ nwN xs.length n A c) (ys ++ nwN ys.length m B d) (xs ++ nwN xs.length n A c).length [(xs.length : Int)] [(ys.length : Int)] true l := by
  have ht : tplB m = tplB n := by unfold tplB; rw [h1, h2, h3]
  obtain ⟨x, hx, a1, a2, a3, a4, a5, a6, a7, a8, a9, a10⟩ := nw_get xs n A c
  obtain ⟨y, hy, e1, e2, e3, e4, e5, e6, e7, e8, e9, e10⟩ := nw_get ys m B d
  have hs : ndS x y = true := ndS_eq (by rw [a1, e1, h1]) (by rw [a2, e2, h2]) (by rw [a3, e3, h3]) (by rw [a4, e4, h4]) (by rw [a5, e5, h5]) (by rw [a6, e6, h6]) (by rw [a7, e7, h7])
  have hk : Cp (xs ++ nwN xs.length n A c) (ys ++ nwN ys.length m B d) x.kids y.kids 0 := by rw [a8, e8]; exact .nil
  have inn : ∀ (zs : List Nd) (i : Nat) (z : Nd), zs[i]? = some z → innL zs (i : Int) = if z.inner ≤ 0 then [] else [z.inner] := fun zs i z hz => by
    unfold innL innN
    rw [atN_some hz]
    by_cases h : z.inner ≤ 0
    · rw [if_pos h, if_pos rfl, if_pos h]
    · rw [if_neg h, if_neg (by omega), if_neg h]
  rw [ht] at e9 e10
  have hc : ∃ b, Cp (xs ++ nwN xs.length n A c) (ys ++ nwN ys.length m B d) (innL (xs ++ nwN xs.length n A c) (xs.length : Int)) (innL (ys ++ nwN ys.length m B d) (ys.length : Int)) b ∧ 1 + b ≤ (xs ++ nwN xs.length n A c).length := by
    rw [inn _ _ _ hx, inn _ _ _ hy, List.length_append, nw_len]
    cases hq : tplB n with
    | false =>
      rw [a9 hq, e9 hq]
      exact ⟨0, .nil, by simp only [Bool.false_eq_true, if_false]; omega⟩
    | true =>
      obtain ⟨p1, p2⟩ := a10 hq
      obtain ⟨q1, q2⟩ := e10 hq
      rw [p1, q1, if_neg (by omega), if_neg (by omega)]
      refine ⟨1 + 0 + 0 + 0, Cp.cons (by rw [Int.toNat_natCast]; exact p2) (by rw [Int.toNat_natCast]; exact q2) (inN_of p2) (inN_of q2) (ndS_eq rfl rfl rfl rfl rfl rfl rfl) .nil ?_ .nil, by simp only [if_true]; omega⟩
      rw [inn _ _ _ p2, inn _ _ _ q2]
      exact .nil
  obtain ⟨b, hb, hle⟩ := hc
  have := Cp.cons (by rw [Int.toNat_natCast]; exact hx) (by rw [Int.toNat_natCast]; exact hy) (inN_of hx) (inN_of hy) hs hk hb .nil
  exact ⟨_, this.sm _ (by omega)⟩
/-- two nodes of which one field is another are not -/
theorem sm_no {xs ys : List Nd} {i j : Nat} {x y : Nd} (hx : xs[i]? = some x) (hy : ys[j]? = some y) (h : (ndS x y && x.kids.length == y.kids.length) = false) (l : Int) : Sm xs ys xs.length [(i : Int)] [(j : Int)] false l :=
  .unlike (by rw [Int.toNat_natCast]; exact hx) (by rw [Int.toNat_natCast]; exact hy) (inN_of hx) (inN_of hy) (by have := (List.getElem?_eq_some_iff.1 hx).1; omega) h
theorem nw_no (xs ys : List Nd) (n m : Nd) (A B : Option Addr) (c d : Nat) (h : n.kind ≠ m.kind ∨ n.space ≠ m.space ∨ n.name ≠ m.name ∨ n.data ≠ m.data ∨ n.attrs ≠ m.attrs ∨ n.pub ≠ m.pub ∨ n.sys ≠ m.sys) (l : Int) :
    Sm (xs ++ nwN xs.length n A c) (ys ++ nwN ys.length m B d) (xs ++ nwN xs.length n A c).length [(xs.length : Int)] [(ys.length : Int)] false l := by
  obtain ⟨x, hx, a1, a2, a3, a4, a5, a6, a7, _⟩ := nw_get xs n A c
  obtain ⟨y, hy, e1, e2, e3, e4, e5, e6, e7, _⟩ := nw_get ys m B d
  refine sm_no hx hy ?_ l
  rw [Bool.and_eq_false_iff]
  left
  cases hh : ndS x y with
  | false => rfl
  | true =>
    exfalso
    unfold ndS at hh
    simp only [Bool.and_eq_true, beq_iff_eq, sm_iff, decide_eq_true_eq] at hh
    obtain ⟨⟨⟨⟨⟨⟨g1, g2⟩, g3⟩, g4⟩, g5⟩, g6⟩, g7⟩ := hh
    rw [a1, e1] at g1
    rw [a2, e2] at g2
    rw [a3, e3] at g3
    rw [a4, e4] at g4
    rw [a6, e6] at g5
    rw [a7, e7] at g6
    rw [a5, e5] at g7
    simp [g1, g2, g3, g4, g5, g6, g7] at h
end Go.Proofs.Ytodlcfhkiilpgaa
