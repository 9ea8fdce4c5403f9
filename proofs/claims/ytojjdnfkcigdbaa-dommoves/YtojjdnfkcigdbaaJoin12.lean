/- The contract of Say, where there is room for a node more. The contract of Move. A tree's calls, held against what the law keeps. -/
import Derived.Test.YtojjdnfkcigdbaaGh
import Derived.Test.YtojjdnfkcigdbaaJoin5
import Derived.Test.YtojjdnfkcigdbaaJoin10
import Derived.Test.YtojjdnfkcigdbaaIc
namespace Go.Proofs.Ytojjdnfkcigdbaa
open Go.RowKit Go.Shelf Go.Lib

def txN (s : ByteArray) : Nd := ⟨3, 0, ⟨#[]⟩, s, none, [], 0, ⟨#[]⟩, ⟨#[]⟩, 0, .slice none 0 0, [], 0⟩
/-- a node's text that grows -/
def setD (ns : List Nd) (i : Nat) (s : ByteArray) : List Nd := match ns[i]? with
  | some x => ns.set i { x with data := x.data ++ s }
  | none => ns
/-- the node whose text would grow, if there is such a one -/
def sayN (ns : List Nd) (up before : Int) : Option Nat := if 0 < plcN ns up before then
    match (kdN ns up)[(plcN ns up before).toNat - 1]? with
    | some l => if atN ns l Nd.kind 0 == 3 then some l.toNat else none
    | none => none
  else none
/-- what Say leaves, what it answers -/
inductive SayR (ns : List Nd) (up : Int) (s : ByteArray) (before : Int) : List Nd → Int → Prop
  | arg : (inN ns up = false ∨ s.toList = []) → SayR ns up s before ns 1
  | miss : inN ns up = true → s.toList ≠ [] → plcB ns up before = false → SayR ns up s before ns 4
  | grow : (l : Nat) → inN ns up = true → s.toList ≠ [] → plcB ns up before = true → sayN ns up before = some l → SayR ns up s before (setD ns l s) 0
  | new : (A : Option Addr) → (c : Nat) → (v1 v2 : Value) → inN ns up = true → s.toList ≠ [] → plcB ns up before = true → sayN ns up before = none →
      SayR ns up s before (putP (ns ++ [aloneNd (txN s) A c]) up ns.length before v1 v2) (putE (ns ++ [aloneNd (txN s) A c]) up ns.length before)
section
variable {base D : Nat} {v : Value} {qk : Bool} {ns ns' ns'' : List Nd} {W W' W'' : World}
theorem Trnd.adds (h : Trnd base D v qk ns ns' W W') : Adds base D v qk ns ns' W W' := ⟨v, h⟩
theorem Adds.trans (h1 : Adds base D v qk ns ns' W W') (h2 : ∀ v', DocM base D v' qk ns' W' → Adds base D v' qk ns' ns'' W' W'') : Adds base D v qk ns ns'' W W'' := by
  obtain ⟨v1, hd, hf, hn⟩ := h1
  obtain ⟨v2, hd2, hf2, hn2⟩ := h2 v1 hd
  exact ⟨v2, hd2, hf.trans' hf2 hn, fun k hk => by
    rcases hn2 k hk with h | h
    · exact hn k h
    · exact .inr (Nat.le_trans hf.size h)⟩
theorem DocM.data_ {i : Nat} {x : Nd} {g c : Nat} (h : DocM base D (.slice (some ⟨g, 0, none⟩) ns.length c) qk ns W) (hx : ns[i]? = some x) (s : ByteArray) :
    Trnd base D (.slice (some ⟨g, 0, none⟩) ns.length c) qk ns (setD ns i s) W (W.setCell ⟨g, i * 10 + 3, none⟩ (.string (x.data ++ s))) := by
  have : setD ns i s = ns.set i { x with data := x.data ++ s } := by unfold setD; rw [hx]
  rw [this]
  exact h.fld (j := 3) (x' := { x with data := x.data ++ s }) hx (by omega) rfl rfl rfl rfl rfl
/-- the place that is found lies within the kids -/
theorem plc_self {ns : List Nd} {up before : Int} (hp : plcB ns up before = true) : ∃ k : Nat, plcN ns up before = (k : Int) ∧ k ≤ (kdN ns up).length := by
  unfold plcN
  unfold plcB at hp
  by_cases h0 : before = -1
  · rw [if_pos h0]
    exact ⟨_, rfl, Nat.le_refl _⟩
  · rw [if_neg h0] at hp ⊢
    have hp := of_decide_eq_true hp
    rcases idx_cases (kdN ns up) before with h | ⟨k, h, hk⟩
    · omega
    · exact ⟨k, h, Nat.le_of_lt (List.getElem?_eq_some_iff.1 hk).1⟩
def SayPost (base D : Nat) (v : Value) (qk : Bool) (ns : List Nd) (up : Int) (s : ByteArray) (before : Int) (W : World) (e : Ending) (W' : World) : Prop :=
  ∃ ns' z, SayR ns up s before ns' z ∧ e = .returned (.int .i64 z) ∧ Adds base D v qk ns ns' W W'
set_option maxHeartbeats 4000000 in
theorem say_any (up : Int) (s : ByteArray) (before : Int) (W : World) (h : DocM base D v qk ns W) (hl : ns.length < 10000) (hkd : ∀ x ∈ ns, x.kids.length < 1000000) (hz : ∀ x ∈ ns, x.data.size + s.size ≤ 1000000000) :
    Calls Try.prog 25 #[.pointer (some ⟨D, 0, none⟩), .int .i64 up, .string s, .int .i64 before] W (SayPost base D v qk ns up s before W) := by
  have KS := Lib.hid (has_any up W h)
  have KP := Lib.hid (dplace_any up before W h)
  have HRF := Lib.hid (Trnd.refl h).adds
  cases hu : inN ns up with
  | false =>
    rw [hu] at KS
    have HR : Hid (SayR ns up s before ns 1) := Lib.hid (.arg (.inl hu))
    clear h hu KP hkd hz
    go_enter Try.func25, Try.ntmps25
    go_wp2_with fail
    refine KS.out.mono ?_
    rintro e w1 ⟨rfl, rfl⟩
    go_wp2
    go_ret
    exact ⟨_, _, HR.out, rfl, HRF.out⟩
  | true =>
    rw [hu] at KS
    cases hs : s.toList.isEmpty with
    | true =>
      have hse := List.isEmpty_iff.1 hs
      have HR : Hid (SayR ns up s before ns 1) := Lib.hid (.arg (.inr hse))
      clear h hu KP hkd hz
      go_enter Try.func25, Try.ntmps25
      go_wp2_with fail
      refine KS.out.mono ?_
      rintro e w1 ⟨rfl, rfl⟩
      go_wp2
      go_ret
      exact ⟨_, _, HR.out, rfl, HRF.out⟩
    | false =>
      have hse : ¬ s.toList = [] := fun e => by rw [e] at hs; cases hs
      cases hp : plcB ns up before with
      | false =>
        rw [hp] at KP
        have HR : Hid (SayR ns up s before ns 4) := Lib.hid (.miss hu hse hp)
        clear h hu hp hkd hz
        go_enter Try.func25, Try.ntmps25
        go_wp2_with fail
        refine KS.out.mono ?_
        rintro e w1 ⟨rfl, rfl⟩
        go_wp2_with fail
        refine KP.out.mono ?_
        rintro e w1 ⟨rfl, rfl⟩
        go_wp2
        go_ret
        exact ⟨_, _, HR.out, rfl, HRF.out⟩
      | true =>
        rw [hp] at KP
        obtain ⟨p, y, rfl, hy⟩ := inN_at hu
        have hpl := (List.getElem?_eq_some_iff.1 hy).1
        obtain ⟨Av, c, hv, hle, hmx, hgv⟩ := h.sl
        obtain ⟨g, rfl, hbg, hgl⟩ := hgv (by omega)
        subst hv
        have hkdN : kdN ns (p : Int) = y.kids := atN_some hy
        obtain ⟨k, hk, hkl⟩ := plc_self hp
        rw [hkdN] at hkl
        rw [hk] at KP
        have hbs : base ≤ W.heap.size := by have := h.ge; have := h.lt; omega
        have KA0 := add_plain (txN s) h hbs rfl (by omega) (.inl rfl) (fun _ => rfl) (Nat.zero_le _)
        have HU := Lib.hid hu
        have HPB := Lib.hid hp
        have HKD := Lib.hid hkd
        have KA : Hid _ := Lib.hid KA0
        rw [show (txN s).cs.toArray = #[.int .i64 3, .int .i64 0, .string ⟨#[]⟩, .string s, .slice none 0 0, .string ⟨#[]⟩, .string ⟨#[]⟩, .int .i64 0, .slice none 0 0, .int .i64 0] from rfl] at KA
        clear KA0
        cases k with
        | zero =>
          have HSN : Hid (sayN ns (p : Int) before = none) := Lib.hid (by unfold sayN; rw [hk]; rfl)
          clear h hu hp hkd hz hy hk hkdN hgv HRF
          go_enter Try.func25, Try.ntmps25
          go_wp2_with fail
          refine KS.out.mono ?_
          rintro e w1 ⟨rfl, rfl⟩
          go_wp2_with fail
          refine KP.out.mono ?_
          rintro e w1 ⟨rfl, rfl⟩
          go_wp2_with fail
          refine KA.out.mono ?_
          rintro e w2 ⟨rfl, A2, c2, v2, hd2, hf2, hn2⟩
          have KPut := Lib.hid (put_any (p : Int) (ns.length : Int) before w2 hd2 (by simp; omega) (fun x hx => by
            rw [List.mem_append] at hx
            rcases hx with hx | hx
            · exact HKD.out x hx
            · rw [List.mem_singleton] at hx; subst hx; exact Nat.zero_lt_succ _))
          have HA2 : Hid (Adds base D (.slice (some ⟨g, 0, none⟩) ns.length c) qk ns (ns ++ [aloneNd (txN s) A2 c2]) w1 w2 ∧ DocM base D v2 qk (ns ++ [aloneNd (txN s) A2 c2]) w2) := Lib.hid ⟨⟨v2, hd2, hf2, hn2⟩, hd2⟩
          have HF2 := Lib.hid hf2
          have HN2 := Lib.hid hn2
          have dn : ((ns.length : Int) == -1) = false := by rw [beq_eq_false_iff_ne]; omega
          clear hd2 hf2 hn2
          go_wp2_with fail
          refine KPut.out.mono ?_
          rintro e w3 ⟨u1, u2, rfl, hT⟩
          have HT := Lib.hid hT
          clear hT
          go_wp2
          go_ret
          exact ⟨_, _, .new A2 c2 u1 u2 HU.out hse HPB.out HSN.out, rfl, v2, HT.out.1, HF2.out.trans' HT.out.2.1 HN2.out, fun q hq => by
            rcases HT.out.2.2 q hq with h | h
            · exact HN2.out q h
            · exact .inr (Nat.le_trans HF2.out.size h)⟩
        | succ j =>
          obtain ⟨l, hlj⟩ : ∃ l, y.kids[j]? = some l := ⟨_, List.getElem?_eq_getElem (by omega)⟩
          obtain ⟨c0, _, _⟩ := h.cells
          obtain ⟨_, c8, _, _⟩ := h.node hy
          obtain ⟨A, cK, e1, _, hKle, _, hr⟩ := Rd.own (h.kids p y hy)
          rw [e1] at c8
          obtain ⟨b, off, rfl, hb, hcell⟩ := hr.pos (by omega)
          have cj := hcell j (by omega)
          rw [hlj] at cj
          have cj : W.cell? ⟨b, off + j, none⟩ = some (.int .i64 l) := cj
          have KK := Lib.hid (kind_any l W h)
          obtain ⟨kz, hkz⟩ : ∃ k, atN ns l Nd.kind 0 = k := ⟨_, rfl⟩
          rw [hkz] at KK
          have dj : decide ((0 : Int) < ((j + 1 : Nat) : Int)) = true := decide_eq_true (by omega)
          have dj' : decide ((0 : Int) < (j : Int) + 1) = true := decide_eq_true (by omega)
          have hjk : j < y.kids.length := by omega
          have hj6 : j < 1000000 := by have := hkd y (List.mem_of_getElem? hy); omega
          by_cases h3 : kz = 3
          · have d3 : (kz == 3) = true := by rw [h3]; rfl
            have hlin : inN ns l = true := by
              cases hq : inN ns l with
              | true => rfl
              | false => rw [atN_none hq] at hkz; omega
            obtain ⟨q, z, rfl, hzq⟩ := inN_at hlin
            have hql := (List.getElem?_eq_some_iff.1 hzq).1
            have HSN : Hid (sayN ns (p : Int) before = some q) := Lib.hid (by
              unfold sayN
              rw [hk, if_pos (by omega), hkdN, Int.toNat_natCast, Nat.add_sub_cancel, hlj]
              show (if (atN ns (q : Int) Nd.kind 0 == 3) = true then some _ else none) = _
              rw [hkz, d3, if_pos rfl, Int.toNat_natCast])
            have cd : W.cell? ⟨g, q * 10 + 3, none⟩ = some (.string z.data) := h.cell hzq (by omega)
            have fd : W.frozen? ⟨g, q * 10 + 3, none⟩ = false := h.row.frozenAt _
            have HT := Lib.hid (h.data_ hzq s)
            have hzs := hz z (List.mem_of_getElem? hzq)
            clear h hu hp hkd hz hy hk hkdN hgv HRF KA hlj hzq hkz h3 hr hcell e1 hlin
            go_enter Try.func25, Try.ntmps25
            go_wp2_with fail
            refine KS.out.mono ?_
            rintro e w1 ⟨rfl, rfl⟩
            go_wp2_with fail
            refine KP.out.mono ?_
            rintro e w1 ⟨rfl, rfl⟩
            go_wp2_with fail
            refine KK.out.mono ?_
            rintro e w1 ⟨rfl, rfl⟩
            go_wp2
            go_ret
            exact ⟨_, _, .grow q HU.out hse HPB.out HSN.out, rfl, HT.out.adds⟩
          · have d3 : (kz == 3) = false := by rw [beq_eq_false_iff_ne]; exact h3
            have HSN : Hid (sayN ns (p : Int) before = none) := Lib.hid (by
              unfold sayN
              rw [hk, if_pos (by omega), hkdN, Int.toNat_natCast, Nat.add_sub_cancel, hlj]
              show (if (atN ns l Nd.kind 0 == 3) = true then some _ else none) = _
              rw [hkz, d3]; rfl)
            clear h hu hp hkd hz hy hk hkdN hgv HRF hlj hkz h3 hr hcell e1
            go_enter Try.func25, Try.ntmps25
            go_wp2_with fail
            refine KS.out.mono ?_
            rintro e w1 ⟨rfl, rfl⟩
            go_wp2_with fail
            refine KP.out.mono ?_
            rintro e w1 ⟨rfl, rfl⟩
            go_wp2_with fail
            refine KK.out.mono ?_
            rintro e w1 ⟨rfl, rfl⟩
            go_wp2_with fail
            refine KA.out.mono ?_
            rintro e w2 ⟨rfl, A2, c2, v2, hd2, hf2, hn2⟩
            have KPut := Lib.hid (put_any (p : Int) (ns.length : Int) before w2 hd2 (by simp; omega) (fun x hx => by
              rw [List.mem_append] at hx
              rcases hx with hx | hx
              · exact HKD.out x hx
              · rw [List.mem_singleton] at hx; subst hx; exact Nat.zero_lt_succ _))
            have HA2 : Hid (Adds base D (.slice (some ⟨g, 0, none⟩) ns.length c) qk ns (ns ++ [aloneNd (txN s) A2 c2]) w1 w2 ∧ DocM base D v2 qk (ns ++ [aloneNd (txN s) A2 c2]) w2) := Lib.hid ⟨⟨v2, hd2, hf2, hn2⟩, hd2⟩
            have HF2 := Lib.hid hf2
            have HN2 := Lib.hid hn2
            have dn : ((ns.length : Int) == -1) = false := by rw [beq_eq_false_iff_ne]; omega
            clear hd2 hf2 hn2
            go_wp2_with fail
            refine KPut.out.mono ?_
            rintro e w3 ⟨u1, u2, rfl, hT⟩
            have HT := Lib.hid hT
            clear hT
            go_wp2
            go_ret
            exact ⟨_, _, .new A2 c2 u1 u2 HU.out hse HPB.out HSN.out, rfl, v2, HT.out.1, HF2.out.trans' HT.out.2.1 HN2.out, fun q hq => by
              rcases HT.out.2.2 q hq with h | h
              · exact HN2.out q h
              · exact .inr (Nat.le_trans HF2.out.size h)⟩
end
end Go.Proofs.Ytojjdnfkcigdbaa
namespace Go.Proofs.Ytojjdnfkcigdbaa
open Go.RowKit Go.Shelf Go.Lib
attribute [local go_sem] Oper.semAt_some

theorem putP_len (ns : List Nd) (up n before : Int) (v1 v2 : Value) : (putP ns up n before v1 v2).length = ns.length := by
  unfold putP
  split
  · rw [setU_len, setK_len, outP_len]
  · rfl
/-- a Put gives each node one kid more at most -/
theorem putP_kids {ns : List Nd} {up n before : Int} {v1 v2 : Value} {m : Nat} (h : ∀ x ∈ ns, x.kids.length ≤ m) : ∀ x ∈ putP ns up n before v1 v2, x.kids.length ≤ m + 1 := by
  have hout : ∀ (j : Nat) (x : Nd), (outP ns n v1)[j]? = some x → x.kids.length ≤ m := by
    intro j x hx
    have hj : j < ns.length := by rw [← outP_len ns n v1]; exact (List.getElem?_eq_some_iff.1 hx).1
    obtain ⟨y', h1, h2⟩ := out_kids (n := n) (v := v1) (List.getElem?_eq_getElem hj)
    rw [h1] at hx
    cases hx
    have hm := h ns[j] (List.getElem_mem hj)
    rcases h2 with h2 | ⟨k, hk, h2⟩
    · rw [h2]; exact hm
    · rw [h2]
      have := List.length_eraseIdx_le (l := ns[j].kids) (i := k)
      omega
  intro x hx
  unfold putP at hx
  split at hx
  · obtain ⟨j, hj⟩ := List.mem_iff_getElem?.1 hx
    have hjl : j < (outP ns n v1).length := by
      have := (List.getElem?_eq_some_iff.1 hj).1
      rw [setU_len, setK_len] at this
      exact this
    obtain ⟨y1, a1, a2⟩ := setK_get (i := up.toNat) (v := v2) (ks := (kdN (outP ns n v1) up).take (plcN (outP ns n v1) up before).toNat ++ n :: (kdN (outP ns n v1) up).drop (plcN (outP ns n v1) up before).toNat) (List.getElem?_eq_getElem hjl)
    obtain ⟨y2, b1, b2, _, _⟩ := setU_get (i := n.toNat) (u := up) a1
    rw [b1] at hj
    cases hj
    rw [b2, a2]
    split
    · have hk : (kdN (outP ns n v1) up).length ≤ m := by
        unfold kdN
        cases hq : inN (outP ns n v1) up with
        | false => rw [atN_none hq]; exact Nat.zero_le _
        | true =>
          obtain ⟨i, z, e, hi⟩ := inN_at hq
          rw [e, atN_some hi]
          exact hout i z hi
      simp only [List.length_append, List.length_cons, List.length_take, List.length_drop]
      omega
    · have := hout j _ (List.getElem?_eq_getElem hjl)
      omega
  · have := h x hx
    omega
/-- what Move leaves, and what it answers: one kid behind the other is put -/
inductive MvR (up : Int) : List Int → List Nd → List Nd → Int → Prop
  | nil {ns} : MvR up [] ns ns 0
  | bad {n ks ns} (v1 v2 : Value) : putE ns up n (-1) ≠ 0 → MvR up (n :: ks) ns (putP ns up n (-1) v1 v2) (putE ns up n (-1))
  | go {n ks ns ns' z} (v1 v2 : Value) : putE ns up n (-1) = 0 → MvR up ks (putP ns up n (-1) v1 v2) ns' z → MvR up (n :: ks) ns ns' z
end Go.Proofs.Ytojjdnfkcigdbaa
namespace Go.Proofs.Ytojjdnfkcigdbaa
open Go.RowKit Go.Shelf Go.Lib

def Nd.pl (x : Nd) : Pl := ⟨x.kind, x.name, x.data, x.up, x.kids, x.inner⟩
theorem inN_pl (ns : List Nd) (n : Int) : inN ns n = inQ (ns.map Nd.pl) n := by unfold inN inQ; rw [List.length_map]
theorem atN_pl {β : Type} (ns : List Nd) (n : Int) {f : Nd → β} {g : Pl → β} {d : β} (h : ∀ x, f x = g x.pl) : atN ns n f d = pAt (ns.map Nd.pl) n g d := by
  cases hn : inN ns n with
  | false =>
    rw [atN_none hn]
    unfold inN at hn
    simp only [Bool.and_eq_false_iff, decide_eq_false_iff_not] at hn
    rcases hn with h0 | h0
    · rw [pAt_neg (by omega)]
    · rw [pAt_ge (by rw [List.length_map]; omega)]
  | true =>
    obtain ⟨i, x, rfl, hx⟩ := inN_at hn
    rw [atN_some hx, pAt_some (x := x.pl) (by rw [List.getElem?_map, hx]; rfl), h]
theorem kind_pl (ns : List Nd) (n : Int) : atN ns n Nd.kind 0 = pAt (ns.map Nd.pl) n Pl.kind 0 := atN_pl ns n (fun _ => rfl)
theorem up_pl (ns : List Nd) (n : Int) : atN ns n Nd.up (-1) = pAt (ns.map Nd.pl) n Pl.up (-1) := atN_pl ns n (fun _ => rfl)
theorem kdN_pl (ns : List Nd) (n : Int) : kdN ns n = pAt (ns.map Nd.pl) n Pl.kids [] := atN_pl ns n (fun _ => rfl)
theorem plcN_pl (ns : List Nd) (up before : Int) : plcN ns up before = plQ (ns.map Nd.pl) up before := by
  unfold plcN plQ
  rw [kdN_pl]
theorem plcB_pl (ns : List Nd) (up before : Int) : plcB ns up before = decide (0 ≤ plQ (ns.map Nd.pl) up before) := by
  unfold plcB plQ
  rw [kdN_pl]
  split
  · rw [decide_eq_true (by omega)]
  · rfl
theorem setK_pl (ns : List Nd) (i : Nat) (v : Value) (ks : List Int) : (setK ns i v ks).map Nd.pl = md (ns.map Nd.pl) i (fun y => { y with kids := ks }) := by
  unfold setK md
  rw [List.getElem?_map]
  cases ns[i]? with
  | none => rfl
  | some x => simp only [Option.map_some, List.map_set]; rfl
theorem setU_pl (ns : List Nd) (i : Nat) (u : Int) : (setU ns i u).map Nd.pl = md (ns.map Nd.pl) i (fun y => { y with up := u }) := by
  unfold setU md
  rw [List.getElem?_map]
  cases ns[i]? with
  | none => rfl
  | some x => simp only [Option.map_some, List.map_set]; rfl
theorem setD_pl (ns : List Nd) (i : Nat) (s : ByteArray) : (setD ns i s).map Nd.pl = md (ns.map Nd.pl) i (fun y => { y with data := y.data ++ s }) := by
  unfold setD md
  rw [List.getElem?_map]
  cases ns[i]? with
  | none => rfl
  | some x => simp only [Option.map_some, List.map_set]; rfl
theorem md_id {ps : List Pl} {i : Nat} {x : Pl} {f : Pl → Pl} (h : ps[i]? = some x) (hf : f x = x) : md ps i f = ps := by
  unfold md
  rw [h]
  obtain ⟨hl, e⟩ := List.getElem?_eq_some_iff.1 h
  show ps.set i (f x) = ps
  rw [hf, ← e, List.set_getElem_self]
theorem md_congr {ps : List Pl} {i : Nat} {f g : Pl → Pl} (h : ∀ x, ps[i]? = some x → f x = g x) : md ps i f = md ps i g := by
  unfold md
  cases hx : ps[i]? with
  | none => rfl
  | some x => show ps.set i (f x) = ps.set i (g x); rw [h x hx]
theorem erase_idx (n : Int) : ∀ (l : List Int) (i k : Nat), Lib.idxFrom l n i = ((i + k : Nat) : Int) → l.eraseIdx k = l.erase n
  | [], _, _, _ => by simp
  | z :: zs, i, k, h => by
    unfold Lib.idxFrom at h
    by_cases e : z = n
    · rw [if_pos e] at h
      have : k = 0 := by omega
      subst this
      rw [e]
      simp
    · rw [if_neg e] at h
      cases k with
      | zero =>
        rcases idxFrom_cases n zs (i + 1) with h1 | ⟨q, h1, _⟩
        · omega
        · omega
      | succ k =>
        rw [List.eraseIdx_cons_succ, erase_idx n zs (i + 1) k (by rw [h]; congr 1; omega), List.erase_cons_tail (by simpa using e)]
theorem idx_mem {l : List Int} {n : Int} (h : n ∈ l) : ∃ k : Nat, Lib.idxOf l n = (k : Int) ∧ l[k]? = some n := by
  have h1 : (0 : Int) ≤ Lib.idxOf l n := by rw [Lib.idxOf_nonneg_iff]; simpa using h
  rcases idx_cases l n with h2 | h2
  · omega
  · exact h2
theorem outP_pl {ns : List Nd} (h : Tr (ns.map Nd.pl)) {n : Int} (v : Value) (hn : inN ns n = true) : (outP ns n v).map Nd.pl = outQ (ns.map Nd.pl) n := by
  obtain ⟨i, x, rfl, hx⟩ := inN_at hn
  have hx' : (ns.map Nd.pl)[i]? = some x.pl := by rw [List.getElem?_map, hx]; rfl
  have hup : atN ns (i : Int) Nd.up (-1) = x.up := atN_some hx
  have hup' : pAt (ns.map Nd.pl) (i : Int) Pl.up (-1) = x.up := pAt_some hx'
  unfold outP outQ outI
  rw [hn, if_pos rfl, hup, hup']
  rcases h.up i _ hx' with e | ⟨p, y, e, hy, hm⟩
  · have e : x.up = -1 := e
    rw [e, if_pos (show (-1 : Int) < 0 by omega)]
    have hk : kdN ns (-1) = [] := atN_none (by rfl)
    rw [hk, if_neg (show ¬ (0 : Int) ≤ Lib.idxOf [] (i : Int) from fun h => by have : Lib.idxOf [] (i : Int) = -1 := rfl; omega)]
    rw [setU_pl, Int.toNat_natCast]
    exact md_id hx' (by unfold Nd.pl; rw [e])
  · have e : x.up = (p : Int) := e
    rw [e, if_neg (show ¬ (p : Int) < 0 by omega), Int.toNat_natCast, Int.toNat_natCast]
    have hk : kdN ns (p : Int) = y.kids := by rw [kdN_pl]; exact pAt_some hy
    rw [hk]
    obtain ⟨k, h1, _⟩ := idx_mem hm
    rw [h1, if_pos (by omega), Int.toNat_natCast, setU_pl, setK_pl]
    congr 1
    refine md_congr fun z hz => ?_
    rw [hy] at hz
    cases hz
    rw [erase_idx (i : Int) y.kids 0 k (by rw [Nat.zero_add]; exact h1)]
theorem above_pl {ns : List Nd} (h : Tr (ns.map Nd.pl)) (hl : ns.length ≤ 1000000) {m : Int} (h0 : 0 ≤ m) (h1 : m < ns.length) : aboveN ns m = abv (ns.map Nd.pl) m := by
  have hw : wrap64 (m - 1) = m - 1 := by unfold wrap64; omega
  have hin : innN ns (m - 1) = pAt (ns.map Nd.pl) (m - 1) Pl.inner (-1) := by
    unfold innN
    cases hn : inN ns (m - 1) with
    | false =>
      rw [atN_none hn]
      unfold inN at hn
      simp only [Bool.and_eq_false_iff, decide_eq_false_iff_not] at hn
      rw [pAt_neg (by omega)]
    | true =>
      obtain ⟨i, x, e, hx⟩ := inN_at hn
      have hx' : (ns.map Nd.pl)[i]? = some x.pl := by rw [List.getElem?_map, hx]; rfl
      rw [e, atN_some hx, pAt_some hx']
      rcases h.inn i _ hx' with e | ⟨e, _⟩
      · have e : x.inner = -1 := e
        simp only [Nd.pl, e]; decide
      · have e : x.inner = (i : Int) + 1 := e
        rw [if_neg (by omega)]
        rfl
  unfold abv
  rw [if_neg (show ¬ m < 0 by omega)]
  unfold aboveN
  rw [hw, hin, up_pl]
theorem climb_pl {ns : List Nd} (h : Tr (ns.map Nd.pl)) (hl : ns.length ≤ 1000000) {top : Int} (ht : 0 ≤ top) : ∀ (f : Nat) (m : Int) (l : List Int), Path (abv (ns.map Nd.pl)) m (m :: l) → m < ns.length → m ≠ top → l.length ≤ f → (climb ns top f m == top) = decide (top ∈ l)
  | 0, m, l, hp, hm, hne, hf => by
    have : l = [] := List.eq_nil_of_length_eq_zero (by omega)
    subst this
    unfold climb
    simp [hne]
  | f + 1, m, l, hp, hm, hne, hf => by
    cases hp with
    | cons h0 hp =>
      have ha := above_pl h hl h0 hm
      unfold climb
      rw [ha]
      have hin := h.abv_in (n := m)
      rw [List.length_map] at hin
      obtain ⟨a, hA⟩ : ∃ a, abv (ns.map Nd.pl) m = a := ⟨_, rfl⟩
      rw [hA] at hp hin ⊢
      cases hp with
      | nil =>
        rw [if_pos (.inr rfl)]
        have : ¬ (-1 : Int) = top := by omega
        simp [this]
      | @cons _ l' h2 hp =>
        by_cases e : a = top
        · rw [if_pos (.inl e)]
          simp [e]
        · rw [if_neg (by rintro (h | h); exact e h; omega)]
          rw [climb_pl h hl ht f a l' (.cons h2 hp) (by omega) e (by simp at hf; omega)]
          have : (top ∈ a :: l') ↔ top ∈ l' := by
            rw [List.mem_cons]
            exact ⟨fun h => h.resolve_left (fun h => e h.symm), .inr⟩
          simp only [this]
theorem Path.from_ {f : Int → Int} {n : Int} {l : List Int} (h : Path f n l) : ∀ m ∈ l, m ≠ n → ∃ z ∈ l, f z = m := by
  induction h with
  | nil => intro m hm; cases hm
  | @cons n l h0 hp ih =>
    intro m hm hne
    rcases List.mem_cons.1 hm with e | hm
    · exact absurd e hne
    · by_cases e : m = f n
      · exact ⟨n, List.mem_cons_self .., e.symm⟩
      · obtain ⟨z, hz, e⟩ := ih m hm e
        exact ⟨z, List.mem_cons_of_mem _ hz, e⟩
theorem with_pl {ns : List Nd} (h : Tr (ns.map Nd.pl)) (hl : ns.length ≤ 1000000) {p i : Nat} (hp : p < ns.length) (hi : i < ns.length) : withN ns (p : Int) (i : Int) = ben (ns.map Nd.pl) (i : Int) (p : Int) := by
  obtain ⟨l, hpl, hle, e⟩ := h.ben (n := (p : Int)) (a := (i : Int)) (by omega) (by rw [List.length_map]; omega)
  rw [e]
  rw [List.length_map] at hle
  unfold withN
  cases hpl with
  | @cons _ l h0 hp2 =>
    by_cases hpi : (p : Int) = (i : Int)
    · rw [if_pos hpi]
      simp [hpi]
    · rw [if_neg hpi]
      have hmem : ((i : Int) ∈ (p : Int) :: l) ↔ (i : Int) ∈ l := by
        rw [List.mem_cons]
        exact ⟨fun h => h.resolve_left (fun h => hpi h.symm), .inr⟩
      simp only [hmem]
      split
      · rename_i hno
        obtain ⟨hk0, hi0⟩ := hno
        symm
        rw [decide_eq_false_iff_not]
        intro hm
        obtain ⟨z, hz, ez⟩ := (Path.cons h0 hp2).from_ (i : Int) (List.mem_cons_of_mem _ hm) (fun e => hpi e.symm)
        obtain ⟨hz0, hz1⟩ := h.path_in (Path.cons h0 hp2) (by rw [List.length_map]; omega) z hz
        rw [List.length_map] at hz1
        obtain ⟨q, rfl⟩ : ∃ q : Nat, z = q := ⟨z.toNat, by omega⟩
        obtain ⟨x, hx⟩ : ∃ x, ns[q]? = some x := ⟨_, List.getElem?_eq_getElem (by omega)⟩
        have hx' : (ns.map Nd.pl)[q]? = some x.pl := by rw [List.getElem?_map, hx]; rfl
        unfold abv at ez
        rw [if_neg (by omega), pAt_some hx'] at ez
        by_cases hu : x.pl.up = -1
        · rw [if_neg (by omega)] at ez
          split at ez
          · rename_i hin
            rw [ez] at hin
            obtain ⟨y, hy⟩ : ∃ y, ns[i]? = some y := ⟨_, List.getElem?_eq_getElem hi⟩
            have hy' : (ns.map Nd.pl)[i]? = some y.pl := by rw [List.getElem?_map, hy]; rfl
            rw [pAt_some hy'] at hin
            have hin : y.inner = (q : Int) := hin
            unfold innN at hi0
            rw [atN_some hy, if_neg (by omega)] at hi0
            omega
          · omega
        · rw [if_pos hu] at ez
          rcases h.up q _ hx' with e2 | ⟨j, y, e2, hy, hm2⟩
          · exact hu e2
          · have hji : j = i := by omega
            subst hji
            rw [kdN_pl, pAt_some hy] at hk0
            rw [List.eq_nil_of_length_eq_zero hk0] at hm2
            cases hm2
      · exact climb_pl h hl (by omega) ns.length p l (.cons h0 hp2) (by omega) hpi (by simp at hle; omega)
theorem putB_pl {ns : List Nd} (h : Tr (ns.map Nd.pl)) (hl : ns.length ≤ 1000000) (up n before : Int) : putB ns up n before = !badQ (ns.map Nd.pl) up n before := by
  unfold putB badQ
  rw [inN_pl]
  cases hu : inQ (ns.map Nd.pl) up with
  | false =>
    have : hldB ns up = false := by
      unfold hldB
      rw [atN_none (by rw [inN_pl]; exact hu)]
      rfl
    rw [this]
    rfl
  | true =>
    cases hn : inQ (ns.map Nd.pl) n with
    | false => simp
    | true =>
      obtain ⟨p, y, rfl, hy⟩ := inQ_at hu
      obtain ⟨i, x, rfl, hx⟩ := inQ_at hn
      have hpl := (List.getElem?_eq_some_iff.1 hy).1
      have hil := (List.getElem?_eq_some_iff.1 hx).1
      rw [List.length_map] at hpl hil
      rw [with_pl h hl hpl hil]
      have hk := (h.kd p y hy).1
      have hh : hldB ns (p : Int) = !decide (2 < pAt (ns.map Nd.pl) (p : Int) Pl.kind 0) := by
        unfold hldB
        rw [kind_pl, pAt_some hy]
        by_cases h1 : y.kind = 1
        · rw [h1]; rfl
        · by_cases h2 : y.kind = 2
          · rw [h2]; rfl
          · have a1 : (y.kind == 1) = false := by simpa using h1
            have a2 : (y.kind == 2) = false := by simpa using h2
            rw [a1, a2, decide_eq_true (by omega)]; rfl
      rw [hh, kind_pl]
      cases decide (2 < pAt (ns.map Nd.pl) (p : Int) Pl.kind 0) <;> cases (pAt (ns.map Nd.pl) (i : Int) Pl.kind 0 == 1) <;> cases (before == (i : Int)) <;> cases (ben (ns.map Nd.pl) (i : Int) (p : Int)) <;> rfl
theorem putE_pl {ns : List Nd} (h : Tr (ns.map Nd.pl)) (hl : ns.length ≤ 1000000) (up n before : Int) : putE ns up n before = putEQ (ns.map Nd.pl) up n before := by
  unfold putE putEQ
  rw [putB_pl h hl, plcB_pl]
  cases badQ (ns.map Nd.pl) up n before with
  | true => rfl
  | false =>
    by_cases h0 : plQ (ns.map Nd.pl) up before < 0
    · rw [if_pos h0, decide_eq_false (by omega)]; rfl
    · rw [if_neg h0, decide_eq_true (by omega)]; rfl
theorem putP_pl {ns : List Nd} (h : Tr (ns.map Nd.pl)) (hl : ns.length ≤ 1000000) (up n before : Int) (v1 v2 : Value) : (putP ns up n before v1 v2).map Nd.pl = putQ (ns.map Nd.pl) up n before := by
  unfold putP putQ
  have he := putE_pl h hl up n before
  unfold putE at he
  rw [putB_pl h hl, plcB_pl] at he ⊢
  by_cases h0 : putEQ (ns.map Nd.pl) up n before = 0
  · obtain ⟨hb, hp⟩ := putEQ_ok h0
    rw [if_pos h0, hb, decide_eq_true hp, if_pos (by rfl)]
    obtain ⟨p, i, y, x, rfl, rfl, hy, hx, _⟩ := badQ_no hb
    have ho := outP_pl h v1 (n := (i : Int)) (by rw [inN_pl]; exact inQ_of hx)
    rw [setU_pl, setK_pl, plcN_pl, kdN_pl, ho, Int.toNat_natCast, Int.toNat_natCast]
    unfold attQ
    congr 1
    refine md_congr fun z hz => ?_
    rw [pAt_some hz]
    rfl
  · rw [if_neg h0, if_neg]
    intro e
    simp only [Bool.and_eq_true] at e
    rw [e.1, e.2] at he
    exact h0 he.symm
theorem say_pl {ns ns' : List Nd} {up before z : Int} {s : ByteArray} (h : Tr (ns.map Nd.pl)) (hl : ns.length < 1000000) (hs : SayR ns up s before ns' z) : (ns'.map Nd.pl, z) = sayQ (ns.map Nd.pl) up s before := by
  have hsi : sayN ns up before = sayI (ns.map Nd.pl) up before := by
    unfold sayN sayI
    rw [plcN_pl, kdN_pl]
    split
    · cases (pAt (ns.map Nd.pl) up Pl.kids [])[(plQ (ns.map Nd.pl) up before).toNat - 1]? with
      | none => rfl
      | some l =>
        show (if (atN ns l Nd.kind 0 == 3) = true then _ else _) = (if (pAt (ns.map Nd.pl) l Pl.kind 0 == 3) = true then _ else _)
        rw [kind_pl]
    · rfl
  unfold sayQ
  cases hs with
  | arg h0 =>
    rw [if_pos]
    rw [inN_pl] at h0
    exact h0
  | miss h1 h2 h3 =>
    rw [inN_pl] at h1
    rw [plcB_pl, decide_eq_false_iff_not] at h3
    rw [if_neg (by rintro (h | h); rw [h1] at h; cases h; exact h2 h), if_pos (by omega)]
  | grow l h1 h2 h3 h4 =>
    rw [inN_pl] at h1
    rw [plcB_pl, decide_eq_true_eq] at h3
    rw [if_neg (by rintro (h | h); rw [h1] at h; cases h; exact h2 h), if_neg (by omega), ← hsi, h4, setD_pl]
  | new A c v1 v2 h1 h2 h3 h4 =>
    rw [inN_pl] at h1
    rw [plcB_pl, decide_eq_true_eq] at h3
    rw [if_neg (by rintro (h | h); rw [h1] at h; cases h; exact h2 h), if_neg (by omega), ← hsi, h4]
    have em : (ns ++ [aloneNd (txN s) A c]).map Nd.pl = ns.map Nd.pl ++ [txQ s] := by rw [List.map_append]; rfl
    have ht : Tr ((ns ++ [aloneNd (txN s) A c]).map Nd.pl) := by
      rw [em]
      refine tr_push h (fun j x hx => ?_) (by simp)
      match j, hx with
      | 0, hx => simp at hx; subst hx; exact ⟨rfl, rfl, (show (1 : Int) ≤ 3 by omega), .inl rfl⟩
      | j + 1, hx => simp at hx
    have hlen : (ns ++ [aloneNd (txN s) A c]).length ≤ 1000000 := by simp; omega
    rw [putP_pl ht hlen, putE_pl ht hlen, em, List.length_map]
theorem mv_pl {up : Int} {K : List Int} {ns ns' : List Nd} {z : Int} (hm : MvR up K ns ns' z) : Tr (ns.map Nd.pl) → ns.length ≤ 1000000 → (ns'.map Nd.pl, z) = mvQ up K (ns.map Nd.pl) := by
  induction hm with
  | nil => intro _ _; rfl
  | @bad n ks ns v1 v2 h0 =>
    intro h hl
    unfold mvQ
    have he := putE_pl h hl up n (-1)
    rw [if_neg (by rw [← he]; exact h0), ← he]
    congr 1
    rw [putP_pl h hl]
    unfold putQ
    rw [if_neg (by rw [← he]; exact h0)]
  | @go n ks ns ns' z v1 v2 h0 _ ih =>
    intro h hl
    unfold mvQ
    have he := putE_pl h hl up n (-1)
    rw [if_pos (by rw [← he]; exact h0), ← putP_pl h hl up n (-1) v1 v2]
    exact ih (by rw [putP_pl h hl]; exact putQ_tr h _ _ _) (by rw [putP_len]; exact hl)
end Go.Proofs.Ytojjdnfkcigdbaa
