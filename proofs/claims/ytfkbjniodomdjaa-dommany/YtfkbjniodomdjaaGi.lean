/- The contract of Say, where there is room for a node more. -/
import Derived.Test.YtfkbjniodomdjaaGh
import Derived.Test.YtfkbjniodomdjaaEg
namespace Go.Proofs.Ytfkbjniodomdjaa
open Go.RowKit Go.Shelf Go.Lib

def txN (s : ByteArray) : Nd := ⟨3, 0, ⟨#[]⟩, s, none, [], 0, ⟨#[]⟩, ⟨#[]⟩, 0, .slice none 0 0, [], 0⟩
/-- a node's text that grows -/
def setD (ns : List Nd) (i : Nat) (s : ByteArray) : List Nd := match ns[i]? with
  | some x => ns.set i { x with data := x.data ++ s }
  | none => ns
/-- the node whose text would grow, if there is such a one -/
def sayN (ns : List Nd) (up before : Int) : Option Nat := if 0 < plcN ns up before then
    match (kdN ns up)[(plcN ns up before).toNat - 1]? with
    | some l => if atN ns l Nd.kind 0 == 3 then some l.toNat else none
    | none => none
  else none
/-- what Say leaves, what it answers -/
inductive SayR (ns : List Nd) (up : Int) (s : ByteArray) (before : Int) : List Nd → Int → Prop
  | arg : (inN ns up = false ∨ s.toList = []) → SayR ns up s before ns 1
  | miss : inN ns up = true → s.toList ≠ [] → plcB ns up before = false → SayR ns up s before ns 4
  | grow : (l : Nat) → inN ns up = true → s.toList ≠ [] → plcB ns up before = true → sayN ns up before = some l → SayR ns up s before (setD ns l s) 0
  | new : (A : Option Addr) → (c : Nat) → (v1 v2 : Value) → inN ns up = true → s.toList ≠ [] → plcB ns up before = true → sayN ns up before = none →
      SayR ns up s before (putP (ns ++ [aloneNd (txN s) A c]) up ns.length before v1 v2) (putE (ns ++ [aloneNd (txN s) A c]) up ns.length before)
section
variable {base D : Nat} {v : Value} {qk : Bool} {ns ns' ns'' : List Nd} {W W' W'' : World}
theorem Trnd.adds (h : Trnd base D v qk ns ns' W W') : Adds base D v qk ns ns' W W' := ⟨v, h⟩
theorem Adds.trans (h1 : Adds base D v qk ns ns' W W') (h2 : ∀ v', DocM base D v' qk ns' W' → Adds base D v' qk ns' ns'' W' W'') : Adds base D v qk ns ns'' W W'' := by
  obtain ⟨v1, hd, hf, hn⟩ := h1
  obtain ⟨v2, hd2, hf2, hn2⟩ := h2 v1 hd
  exact ⟨v2, hd2, hf.trans' hf2 hn, fun k hk => by
    rcases hn2 k hk with h | h
    · exact hn k h
    · exact .inr (Nat.le_trans hf.size h)⟩
theorem DocM.data_ {i : Nat} {x : Nd} {g c : Nat} (h : DocM base D (.slice (some ⟨g, 0, none⟩) ns.length c) qk ns W) (hx : ns[i]? = some x) (s : ByteArray) :
    Trnd base D (.slice (some ⟨g, 0, none⟩) ns.length c) qk ns (setD ns i s) W (W.setCell ⟨g, i * 10 + 3, none⟩ (.string (x.data ++ s))) := by
  have : setD ns i s = ns.set i { x with data := x.data ++ s } := by unfold setD; rw [hx]
  rw [this]
  exact h.fld (j := 3) (x' := { x with data := x.data ++ s }) hx (by omega) rfl rfl rfl rfl rfl
/-- the place that is found lies within the kids -/
theorem plc_self {ns : List Nd} {up before : Int} (hp : plcB ns up before = true) : ∃ k : Nat, plcN ns up before = (k : Int) ∧ k ≤ (kdN ns up).length := by
  unfold plcN
  unfold plcB at hp
  by_cases h0 : before = -1
  · rw [if_pos h0]
    exact ⟨_, rfl, Nat.le_refl _⟩
  · rw [if_neg h0] at hp ⊢
    have hp := of_decide_eq_true hp
    rcases idx_cases (kdN ns up) before with h | ⟨k, h, hk⟩
    · omega
    · exact ⟨k, h, Nat.le_of_lt (List.getElem?_eq_some_iff.1 hk).1⟩
def SayPost (base D : Nat) (v : Value) (qk : Bool) (ns : List Nd) (up : Int) (s : ByteArray) (before : Int) (W : World) (e : Ending) (W' : World) : Prop :=
  ∃ ns' z, SayR ns up s before ns' z ∧ e = .returned (.int .i64 z) ∧ Adds base D v qk ns ns' W W'
set_option maxHeartbeats 4000000 in
theorem say_any (up : Int) (s : ByteArray) (before : Int) (W : World) (h : DocM base D v qk ns W) (hl : ns.length < 10000) (hkd : ∀ x ∈ ns, x.kids.length < 1000000) (hz : ∀ x ∈ ns, x.data.size + s.size ≤ 1000000000) :
    Calls Try.prog 25 #[.pointer (some ⟨D, 0, none⟩), .int .i64 up, .string s, .int .i64 before] W (SayPost base D v qk ns up s before W) := by
  have KS := Lib.hid (has_any up W h)
  have KP := Lib.hid (dplace_any up before W h)
  have HRF := Lib.hid (Trnd.refl h).adds
  cases hu : inN ns up with
  | false =>
    rw [hu] at KS
    have HR : Hid (SayR ns up s before ns 1) := Lib.hid (.arg (.inl hu))
    clear h hu KP hkd hz
    go_enter Try.func25, Try.ntmps25
    go_wp2_with fail
    refine KS.out.mono ?_
    rintro e w1 ⟨rfl, rfl⟩
    go_wp2
    go_ret
    exact ⟨_, _, HR.out, rfl, HRF.out⟩
  | true =>
    rw [hu] at KS
    cases hs : s.toList.isEmpty with
    | true =>
      have hse := List.isEmpty_iff.1 hs
      have HR : Hid (SayR ns up s before ns 1) := Lib.hid (.arg (.inr hse))
      clear h hu KP hkd hz
      go_enter Try.func25, Try.ntmps25
      go_wp2_with fail
      refine KS.out.mono ?_
      rintro e w1 ⟨rfl, rfl⟩
      go_wp2
      go_ret
      exact ⟨_, _, HR.out, rfl, HRF.out⟩
    | false =>
      have hse : ¬ s.toList = [] := fun e => by rw [e] at hs; cases hs
      cases hp : plcB ns up before with
      | false =>
        rw [hp] at KP
        have HR : Hid (SayR ns up s before ns 4) := Lib.hid (.miss hu hse hp)
        clear h hu hp hkd hz
        go_enter Try.func25, Try.ntmps25
        go_wp2_with fail
        refine KS.out.mono ?_
        rintro e w1 ⟨rfl, rfl⟩
        go_wp2_with fail
        refine KP.out.mono ?_
        rintro e w1 ⟨rfl, rfl⟩
        go_wp2
        go_ret
        exact ⟨_, _, HR.out, rfl, HRF.out⟩
      | true =>
        rw [hp] at KP
        obtain ⟨p, y, rfl, hy⟩ := inN_at hu
        have hpl := (List.getElem?_eq_some_iff.1 hy).1
        obtain ⟨Av, c, hv, hle, hmx, hgv⟩ := h.sl
        obtain ⟨g, rfl, hbg, hgl⟩ := hgv (by omega)
        subst hv
        have hkdN : kdN ns (p : Int) = y.kids := atN_some hy
        obtain ⟨k, hk, hkl⟩ := plc_self hp
        rw [hkdN] at hkl
        rw [hk] at KP
        have hbs : base ≤ W.heap.size := by have := h.ge; have := h.lt; omega
        have KA0 := add_plain (txN s) h hbs rfl (by omega) (.inl rfl) (fun _ => rfl) (Nat.zero_le _)
        have HU := Lib.hid hu
        have HPB := Lib.hid hp
        have HKD := Lib.hid hkd
        have KA : Hid _ := Lib.hid KA0
        rw [show (txN s).cs.toArray = #[.int .i64 3, .int .i64 0, .string ⟨#[]⟩, .string s, .slice none 0 0, .string ⟨#[]⟩, .string ⟨#[]⟩, .int .i64 0, .slice none 0 0, .int .i64 0] from rfl] at KA
        clear KA0
        cases k with
        | zero =>
          have HSN : Hid (sayN ns (p : Int) before = none) := Lib.hid (by unfold sayN; rw [hk]; rfl)
          clear h hu hp hkd hz hy hk hkdN hgv HRF
          go_enter Try.func25, Try.ntmps25
          go_wp2_with fail
          refine KS.out.mono ?_
          rintro e w1 ⟨rfl, rfl⟩
          go_wp2_with fail
          refine KP.out.mono ?_
          rintro e w1 ⟨rfl, rfl⟩
          go_wp2_with fail
          refine KA.out.mono ?_
          rintro e w2 ⟨rfl, A2, c2, v2, hd2, hf2, hn2⟩
          have KPut := Lib.hid (put_any (p : Int) (ns.length : Int) before w2 hd2 (by simp; omega) (fun x hx => by
            rw [List.mem_append] at hx
            rcases hx with hx | hx
            · exact HKD.out x hx
            · rw [List.mem_singleton] at hx; subst hx; exact Nat.zero_lt_succ _))
          have HA2 : Hid (Adds base D (.slice (some ⟨g, 0, none⟩) ns.length c) qk ns (ns ++ [aloneNd (txN s) A2 c2]) w1 w2 ∧ DocM base D v2 qk (ns ++ [aloneNd (txN s) A2 c2]) w2) := Lib.hid ⟨⟨v2, hd2, hf2, hn2⟩, hd2⟩
          have HF2 := Lib.hid hf2
          have HN2 := Lib.hid hn2
          have dn : ((ns.length : Int) == -1) = false := by rw [beq_eq_false_iff_ne]; omega
          clear hd2 hf2 hn2
          go_wp2_with fail
          refine KPut.out.mono ?_
          rintro e w3 ⟨u1, u2, rfl, hT⟩
          have HT := Lib.hid hT
          clear hT
          go_wp2
          go_ret
          exact ⟨_, _, .new A2 c2 u1 u2 HU.out hse HPB.out HSN.out, rfl, v2, HT.out.1, HF2.out.trans' HT.out.2.1 HN2.out, fun q hq => by
            rcases HT.out.2.2 q hq with h | h
            · exact HN2.out q h
            · exact .inr (Nat.le_trans HF2.out.size h)⟩
        | succ j =>
          obtain ⟨l, hlj⟩ : ∃ l, y.kids[j]? = some l := ⟨_, List.getElem?_eq_getElem (by omega)⟩
          obtain ⟨c0, _, _⟩ := h.cells
          obtain ⟨_, c8, _, _⟩ := h.node hy
          obtain ⟨A, cK, e1, _, hKle, _, hr⟩ := Rd.own (h.kids p y hy)
          rw [e1] at c8
          obtain ⟨b, off, rfl, hb, hcell⟩ := hr.pos (by omega)
          have cj := hcell j (by omega)
          rw [hlj] at cj
          have cj : W.cell? ⟨b, off + j, none⟩ = some (.int .i64 l) := cj
          have KK := Lib.hid (kind_any l W h)
          obtain ⟨kz, hkz⟩ : ∃ k, atN ns l Nd.kind 0 = k := ⟨_, rfl⟩
          rw [hkz] at KK
          have dj : decide ((0 : Int) < ((j + 1 : Nat) : Int)) = true := decide_eq_true (by omega)
          have dj' : decide ((0 : Int) < (j : Int) + 1) = true := decide_eq_true (by omega)
          have hjk : j < y.kids.length := by omega
          have hj6 : j < 1000000 := by have := hkd y (List.mem_of_getElem? hy); omega
          by_cases h3 : kz = 3
          · have d3 : (kz == 3) = true := by rw [h3]; rfl
            have hlin : inN ns l = true := by
              cases hq : inN ns l with
              | true => rfl
              | false => rw [atN_none hq] at hkz; omega
            obtain ⟨q, z, rfl, hzq⟩ := inN_at hlin
            have hql := (List.getElem?_eq_some_iff.1 hzq).1
            have HSN : Hid (sayN ns (p : Int) before = some q) := Lib.hid (by
              unfold sayN
              rw [hk, if_pos (by omega), hkdN, Int.toNat_natCast, Nat.add_sub_cancel, hlj]
              show (if (atN ns (q : Int) Nd.kind 0 == 3) = true then some _ else none) = _
              rw [hkz, d3, if_pos rfl, Int.toNat_natCast])
            have cd : W.cell? ⟨g, q * 10 + 3, none⟩ = some (.string z.data) := h.cell hzq (by omega)
            have fd : W.frozen? ⟨g, q * 10 + 3, none⟩ = false := h.row.frozenAt _
            have HT := Lib.hid (h.data_ hzq s)
            have hzs := hz z (List.mem_of_getElem? hzq)
            clear h hu hp hkd hz hy hk hkdN hgv HRF KA hlj hzq hkz h3 hr hcell e1 hlin
            go_enter Try.func25, Try.ntmps25
            go_wp2_with fail
            refine KS.out.mono ?_
            rintro e w1 ⟨rfl, rfl⟩
            go_wp2_with fail
            refine KP.out.mono ?_
            rintro e w1 ⟨rfl, rfl⟩
            go_wp2_with fail
            refine KK.out.mono ?_
            rintro e w1 ⟨rfl, rfl⟩
            go_wp2
            go_ret
            exact ⟨_, _, .grow q HU.out hse HPB.out HSN.out, rfl, HT.out.adds⟩
          · have d3 : (kz == 3) = false := by rw [beq_eq_false_iff_ne]; exact h3
            have HSN : Hid (sayN ns (p : Int) before = none) := Lib.hid (by
              unfold sayN
              rw [hk, if_pos (by omega), hkdN, Int.toNat_natCast, Nat.add_sub_cancel, hlj]
              show (if (atN ns l Nd.kind 0 == 3) = true then some _ else none) = _
              rw [hkz, d3]; rfl)
            clear h hu hp hkd hz hy hk hkdN hgv HRF hlj hkz h3 hr hcell e1
            go_enter Try.func25, Try.ntmps25
            go_wp2_with fail
            refine KS.out.mono ?_
            rintro e w1 ⟨rfl, rfl⟩
            go_wp2_with fail
            refine KP.out.mono ?_
            rintro e w1 ⟨rfl, rfl⟩
            go_wp2_with fail
            refine KK.out.mono ?_
            rintro e w1 ⟨rfl, rfl⟩
            go_wp2_with fail
            refine KA.out.mono ?_
            rintro e w2 ⟨rfl, A2, c2, v2, hd2, hf2, hn2⟩
            have KPut := Lib.hid (put_any (p : Int) (ns.length : Int) before w2 hd2 (by simp; omega) (fun x hx => by
              rw [List.mem_append] at hx
              rcases hx with hx | hx
              · exact HKD.out x hx
              · rw [List.mem_singleton] at hx; subst hx; exact Nat.zero_lt_succ _))
            have HA2 : Hid (Adds base D (.slice (some ⟨g, 0, none⟩) ns.length c) qk ns (ns ++ [aloneNd (txN s) A2 c2]) w1 w2 ∧ DocM base D v2 qk (ns ++ [aloneNd (txN s) A2 c2]) w2) := Lib.hid ⟨⟨v2, hd2, hf2, hn2⟩, hd2⟩
            have HF2 := Lib.hid hf2
            have HN2 := Lib.hid hn2
            have dn : ((ns.length : Int) == -1) = false := by rw [beq_eq_false_iff_ne]; omega
            clear hd2 hf2 hn2
            go_wp2_with fail
            refine KPut.out.mono ?_
            rintro e w3 ⟨u1, u2, rfl, hT⟩
            have HT := Lib.hid hT
            clear hT
            go_wp2
            go_ret
            exact ⟨_, _, .new A2 c2 u1 u2 HU.out hse HPB.out HSN.out, rfl, v2, HT.out.1, HF2.out.trans' HT.out.2.1 HN2.out, fun q hq => by
              rcases HT.out.2.2 q hq with h | h
              · exact HN2.out q h
              · exact .inr (Nat.le_trans HF2.out.size h)⟩
end
end Go.Proofs.Ytfkbjniodomdjaa
