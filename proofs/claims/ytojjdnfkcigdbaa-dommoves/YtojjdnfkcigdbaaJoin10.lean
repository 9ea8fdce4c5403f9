/- Where a node stands: place, above, within; Kids. The contract of Kids. A node taken out of its place: Out. The contract of Out. Whether a node stands within another one. Put, plain: whether it may be, where, and what it leaves. -/
import Derived.Test.YtojjdnfkcigdbaaJoin6
import Derived.Test.YtojjdnfkcigdbaaJoin4
import Derived.Test.YtojjdnfkcigdbaaOShelf
import Derived.Test.YtojjdnfkcigdbaaPShelf
import Derived.Test.YtojjdnfkcigdbaaJoin8
import Derived.Deep.RegionLaw
import Derived.BigRegion
namespace Go.Proofs.Ytojjdnfkcigdbaa
open Go.RowKit Go.Shelf Go.Lib

section
variable {base D : Nat} {v : Value} {qk : Bool} {ns : List Nd}
abbrev kdN (ns : List Nd) (n : Int) : List Int := atN ns n Nd.kids []
theorem kids_form (n : Int) {W : World} (h : DocM base D v qk ns W) : ∃ A c, atN ns n Nd.kv (.slice none 0 0) = .slice A (kdN ns n).length c ∧ (kdN ns n).length ≤ c ∧ c ≤ maxLen ∧ (A = none → c = 0) ∧ Rd W .i64 A (kdN ns n) ∧ W.ownsRow base 3 1 (atN ns n Nd.kv (.slice none 0 0)) (kdN ns n).length ((kdN ns n).map (Value.int .i64)) := by
  unfold kdN
  cases hn : inN ns n with
  | false =>
    rw [atN_none hn, atN_none hn]
    exact ⟨none, 0, rfl, Nat.le_refl _, Nat.zero_le _, fun _ => rfl, .inl rfl, World.ownsRow_nil _ _ _ _⟩
  | true =>
    obtain ⟨i, x, rfl, hx⟩ := inN_at hn
    rw [atN_some hx, atN_some hx]
    obtain ⟨A, c, e1, _, h2, h3, h4⟩ := Rd.own (h.kids i x hx)
    have hm : c ≤ maxLen := by
      rcases (h.kids i x hx).2 with ⟨e2, _⟩ | ⟨g, cap, cur, e2, _, _, _, hm, _⟩
      · rw [e1] at e2; injection e2 with _ _ e2; rw [e2]; exact Nat.zero_le _
      · rw [e1] at e2; injection e2 with _ _ e2; rw [e2]; exact hm
    exact ⟨A, c, e1, h2, hm, h3, h4, h.kids i x hx⟩
theorem index_any (n : Int) (A : Option Addr) (cap : Nat) (xs : List Int) (W : World) (hr : Rd W .i64 A xs) (hle : xs.length ≤ cap) (hmx : cap ≤ maxLen) : Calls Try.prog 78 #[.slice A xs.length cap, .int .i64 n] W fun e W' => e = .returned (.int .i64 (Lib.idxOf xs n)) ∧ W' = W := by
  unfold maxLen at hmx
  rcases hr with rfl | ⟨b, off, rfl, hb, hc⟩
  · exact Any.slices_Index_int_empty Try.kindex A cap n W
  · have := Any.slices_Index_int Try.kindex b off xs.length cap xs n W (Nat.le_refl _) (by omega) (fun j hj => by rw [hc j hj]; simp [List.getD])
    rw [List.take_length] at this
    exact this
/-- where one stands among a node's kids, and whether -/
def plcN (ns : List Nd) (up before : Int) : Int := if before = -1 then (kdN ns up).length else Lib.idxOf (kdN ns up) before
def plcB (ns : List Nd) (up before : Int) : Bool := if before = -1 then true else decide (0 ≤ Lib.idxOf (kdN ns up) before)
theorem dplace_any (up before : Int) (W : World) (h : DocM base D v qk ns W) : Calls Try.prog 61 #[.pointer (some ⟨D, 0, none⟩), .int .i64 up, .int .i64 before] W fun e W' => e = .returned (.tuple #[.int .i64 (plcN ns up before), .bool (plcB ns up before)]) ∧ W' = W := by
  have KK := kids_any up W h
  obtain ⟨A, c, e1, hle, hmx, _, hr, _⟩ := kids_form up h
  rw [e1] at KK
  have KI := Lib.hid (index_any before A c (kdN ns up) W hr hle hmx)
  have HK := Lib.hid KK
  unfold plcN plcB
  obtain ⟨K, hK⟩ : ∃ K, kdN ns up = K := ⟨_, rfl⟩
  rw [hK] at HK KI ⊢
  clear h KK e1 hr hle hmx hK
  by_cases hb : before = -1
  · subst hb
    rw [if_pos rfl, if_pos rfl]
    clear KI
    go_enter Try.func61, Try.ntmps61
    go_wp2_with fail
    refine HK.out.mono ?_
    rintro e w1 ⟨rfl, rfl⟩
    go_wp2
    go_ret2
    exact ⟨rfl, rfl⟩
  · rw [if_neg hb, if_neg hb]
    have d0 : (before == -1) = false := by rw [beq_eq_false_iff_ne]; exact hb
    obtain ⟨q, hq⟩ : ∃ q, Lib.idxOf K before = q := ⟨_, rfl⟩
    rw [hq] at KI ⊢
    obtain ⟨bq, hbq⟩ : ∃ b, decide ((0 : Int) ≤ q) = b := ⟨_, rfl⟩
    clear hq hb
    go_enter Try.func61, Try.ntmps61
    go_wp2_with fail
    refine HK.out.mono ?_
    rintro e w1 ⟨rfl, rfl⟩
    go_wp2_with fail
    refine KI.out.mono ?_
    rintro e w2 ⟨rfl, rfl⟩
    go_wp2
    go_ret2
    exact ⟨by subst hbq; rfl, rfl⟩
theorem above_any (n : Int) (W : World) (h : DocM base D v qk ns W) : Calls Try.prog 91 #[.pointer (some ⟨D, 0, none⟩), .int .i64 n] W fun e W' => e = .returned (.int .i64 (aboveN ns n)) ∧ W' = W := by
  have KU := Lib.hid (up_any n W h)
  have KI := Lib.hid (inner_any (wrap64 (n - 1)) W h)
  unfold aboveN
  obtain ⟨u, hu⟩ : ∃ u, atN ns n Nd.up (-1) = u := ⟨_, rfl⟩
  obtain ⟨q, hq⟩ : ∃ q, innN ns (wrap64 (n - 1)) = q := ⟨_, rfl⟩
  rw [hu] at KU ⊢
  rw [hq] at KI ⊢
  clear h hu hq
  by_cases hu : u = -1
  · have e1 : (u != -1) = false := by rw [hu]; rfl
    rw [if_neg (by simpa using hu)]
    by_cases hq : q = n
    · rw [if_pos hq]
      have e2 : (q == n) = true := by rw [hq]; simp
      clear hq hu
      go_enter Try.func91, Try.ntmps91
      go_wp2_with fail
      refine KU.out.mono ?_
      rintro e w1 ⟨rfl, rfl⟩
      go_wp2_with fail
      refine KI.out.mono ?_
      rintro e w2 ⟨rfl, rfl⟩
      go_wp2
      go_ret
      exact ⟨rfl, rfl⟩
    · rw [if_neg hq]
      have e2 : (q == n) = false := by rw [beq_eq_false_iff_ne]; exact hq
      clear hq hu
      go_enter Try.func91, Try.ntmps91
      go_wp2_with fail
      refine KU.out.mono ?_
      rintro e w1 ⟨rfl, rfl⟩
      go_wp2_with fail
      refine KI.out.mono ?_
      rintro e w2 ⟨rfl, rfl⟩
      go_wp2
      go_ret
      exact ⟨rfl, rfl⟩
  · have e1 : (u != -1) = true := by rw [bne_iff_ne]; exact hu
    rw [if_pos hu]
    clear hu
    go_enter Try.func91, Try.ntmps91
    go_wp2_with fail
    refine KU.out.mono ?_
    rintro e w1 ⟨rfl, rfl⟩
    go_wp2
    go_ret
    exact ⟨rfl, rfl⟩
/-- up and up, so often at most -/
def climb (ns : List Nd) (top : Int) : Nat → Int → Int
  | 0, n => n
  | f + 1, n => if aboveN ns n = top ∨ aboveN ns n = -1 then aboveN ns n else climb ns top f (aboveN ns n)
def withN (ns : List Nd) (n top : Int) : Bool := if n = top then true else if (kdN ns top).length = 0 ∧ innN ns top = -1 then false else climb ns top ns.length n == top
end
end Go.Proofs.Ytojjdnfkcigdbaa
namespace Go.Proofs.Ytojjdnfkcigdbaa
open Go.RowKit Go.Shelf Go.Lib
attribute [local go_sem] Oper.semAt_some

section
variable {base D : Nat} {v : Value} {qk : Bool} {ns : List Nd}
set_option maxRecDepth 100000 in
theorem Kids_any (n : Int) (W : World) (h : DocM base D v qk ns W) (hn : (kdN ns n).length < 1000000) : Calls Try.prog 15 #[.pointer (some ⟨D, 0, none⟩), .int .i64 n] W fun e W' => ∃ v', e = .returned v' ∧ W'.ownsRow W.heap.size 3 1 v' (kdN ns n).length ((kdN ns n).map (Value.int .i64)) ∧ Below W.heap.size W W' := by
  have KK := Lib.hid (kids_any n W h)
  obtain ⟨A, c, e1, _, _, _, _, ho⟩ := kids_form n h
  have KC := Lib.hid (cloI_any ho hn)
  rw [e1] at KK KC
  clear h ho e1
  go_enter Try.func15, Try.ntmps15
  go_wp2_with fail
  refine KK.out.mono ?_
  rintro e w1 ⟨rfl, rfl⟩
  go_wp2_with fail
  refine KC.out.mono ?_
  rintro e w2 ⟨v', rfl, ho, hb⟩
  go_wp2
  go_ret
  exact ⟨_, rfl, ho, hb⟩
end
end Go.Proofs.Ytojjdnfkcigdbaa
namespace Go.Proofs.Ytojjdnfkcigdbaa
open Go.RowKit Go.Shelf Go.Lib

/-- a node's kids, its place, set -/
def setK (ns : List Nd) (i : Nat) (v : Value) (ks : List Int) : List Nd := match ns[i]? with
  | some x => ns.set i { x with kv := v, kids := ks }
  | none => ns
def setU (ns : List Nd) (i : Nat) (u : Int) : List Nd := match ns[i]? with
  | some x => ns.set i { x with up := u }
  | none => ns
theorem setK_some {ns : List Nd} {i : Nat} {x : Nd} (h : ns[i]? = some x) (v : Value) (ks : List Int) : setK ns i v ks = ns.set i { x with kv := v, kids := ks } := by unfold setK; rw [h]
theorem setU_some {ns : List Nd} {i : Nat} {x : Nd} (h : ns[i]? = some x) (u : Int) : setU ns i u = ns.set i { x with up := u } := by unfold setU; rw [h]
/-- where among its node's kids a node stands -/
def outI (ns : List Nd) (n : Int) : Int := Lib.idxOf (kdN ns (atN ns n Nd.up (-1))) n
/-- a node taken out: the kids of the one above it lie at v then -/
def outP (ns : List Nd) (n : Int) (v : Value) : List Nd :=
  if inN ns n then setU (if 0 ≤ outI ns n then setK ns (atN ns n Nd.up (-1)).toNat v ((kdN ns (atN ns n Nd.up (-1))).eraseIdx (outI ns n).toNat) else ns) n.toNat (-1) else ns
/-- what a call leaves that turns a tree, its row of nodes where it was -/
def Trnd (base D : Nat) (v : Value) (qk : Bool) (ns ns' : List Nd) (W W' : World) : Prop :=
  DocM base D v qk ns' W' ∧ Frm (DB D v ns) W W' ∧ ∀ k, DB D v ns' k → DB D v ns k ∨ W.heap.size ≤ k
section
variable {base D : Nat} {v : Value} {qk : Bool} {ns ns' ns'' : List Nd} {W W' W'' : World}
theorem Trnd.refl (h : DocM base D v qk ns W) : Trnd base D v qk ns ns W W := ⟨h, Frm.refl _ _, fun _ h => .inl h⟩
theorem Trnd.trans (h1 : Trnd base D v qk ns ns' W W') (h2 : Trnd base D v qk ns' ns'' W' W'') : Trnd base D v qk ns ns'' W W'' :=
  ⟨h2.1, h1.2.1.trans' h2.2.1 h1.2.2, fun k hk => by
    rcases h2.2.2 k hk with h | h
    · exact h1.2.2 k h
    · exact .inr (Nat.le_trans h1.2.1.size h)⟩
/-- the node's own place is forgotten -/
theorem DocM.up_ {i : Nat} {x : Nd} {g c : Nat} (h : DocM base D (.slice (some ⟨g, 0, none⟩) ns.length c) qk ns W) (hx : ns[i]? = some x) (u : Int) :
    Trnd base D (.slice (some ⟨g, 0, none⟩) ns.length c) qk ns (setU ns i u) W (W.setCell ⟨g, i * 10 + 7, none⟩ (.int .i64 u)) := by
  rw [setU_some hx]
  exact h.fld (j := 7) (x' := { x with up := u }) hx (by omega) rfl rfl rfl rfl rfl
/-- the kids of one laid anew -/
theorem DocM.kids_ {i : Nat} {x : Nd} {g c : Nat} {v' : Value} {ks : List Int} {W2 : World} (h : DocM base D (.slice (some ⟨g, 0, none⟩) ns.length c) qk ns W) (hx : ns[i]? = some x) (hg : W.grownBy W2 x.kv.ownBlock) (ho : W2.ownsRow base 3 1 v' ks.length (ks.map (Value.int .i64)))
    (hkb : ∀ k, v'.ownBlock = some k → x.kv.ownBlock = some k ∨ W.heap.size ≤ k) :
    Trnd base D (.slice (some ⟨g, 0, none⟩) ns.length c) qk ns (setK ns i v' ks) W (W2.setCell ⟨g, i * 10 + 8, none⟩ v') := by
  rw [setK_some hx]
  have hgl : g < W.heap.size := (h.row.lt g rfl).2
  have hf2 : Frm (fun k => x.kv.ownBlock = some k) W W2 := Frm.grown hg (fun k e => e)
  have hvg : v'.ownBlock ≠ some g := fun e => by
    rcases hkb g e with e | e
    · exact rows_neN (h.kids i x hx) h.row (by decide) g e rfl
    · omega
  have hr2 : W2.ownsRow base _ 10 (.slice (some ⟨g, 0, none⟩) ns.length c) ns.length (cellsN ns) := hf2.own h.row (fun k e e2 => rows_neN (h.kids i x hx) h.row (by decide) k e2 e)
  have hfs : Frm (fun k => k = g) W2 (W2.setCell ⟨g, i * 10 + 8, none⟩ v') := Frm.set v' rfl
  refine h.upd (x' := { x with kv := v', kids := ks }) hx ?_ ?_ ?_ rfl rfl hkb
  · exact (hf2.mono (fun k e => .inr e)).trans (hfs.mono (fun k e => .inl (by rw [e]; rfl)))
  · rw [cellsN_set ns i 8 x { x with kv := v', kids := ks } v' hx (by omega) rfl]
    exact own_turnN hr2 rfl _ _
  · exact hfs.own ho (fun k e e2 => hvg (e2 ▸ e))
end
end Go.Proofs.Ytojjdnfkcigdbaa
namespace Go.Proofs.Ytojjdnfkcigdbaa
open Go.RowKit Go.Shelf Go.Lib

theorem setK_len (ns : List Nd) (i : Nat) (v : Value) (ks : List Int) : (setK ns i v ks).length = ns.length := by
  unfold setK
  cases ns[i]? <;> simp
theorem setU_len (ns : List Nd) (i : Nat) (u : Int) : (setU ns i u).length = ns.length := by
  unfold setU
  cases ns[i]? <;> simp
section
variable {base D : Nat} {v : Value} {qk : Bool} {ns : List Nd}
/-- the cells of a node's place and kids, in whatever world a tree lies -/
theorem DocM.node {g c i : Nat} {x : Nd} {W : World} (h : DocM base D (.slice (some ⟨g, 0, none⟩) ns.length c) qk ns W) (hx : ns[i]? = some x) : W.cell? ⟨g, i * 10 + 7, none⟩ = some (.int .i64 x.up) ∧ W.cell? ⟨g, i * 10 + 8, none⟩ = some x.kv ∧ W.frozen? ⟨g, i * 10 + 7, none⟩ = false ∧ W.frozen? ⟨g, i * 10 + 8, none⟩ = false :=
  ⟨h.cell hx (by omega), h.cell hx (by omega), h.row.frozenAt _, h.row.frozenAt _⟩
set_option maxHeartbeats 2000000 in
theorem out_any (n : Int) (W : World) (h : DocM base D v qk ns W) : Calls Try.prog 38 #[.pointer (some ⟨D, 0, none⟩), .int .i64 n] W fun e W' => e = .returned (.tuple #[]) ∧ ∃ v', Trnd base D v qk ns (outP ns n v') W W' := by
  have KH := Lib.hid (has_any n W h)
  cases hn : inN ns n with
  | false =>
    rw [hn] at KH
    have HT : Hid (Trnd base D v qk ns (outP ns n v) W W) := Lib.hid (by unfold outP; rw [hn]; exact Trnd.refl h)
    clear h hn
    go_enter Try.func38, Try.ntmps38
    go_wp2_with fail
    refine KH.out.mono ?_
    rintro e w1 ⟨rfl, rfl⟩
    go_wp2
    refine bodyPost_ret (results_none rfl _ _ _) rfl ?_
    exact ⟨rfl, v, HT.out⟩
  | true =>
    rw [hn] at KH
    obtain ⟨i, x, rfl, hx⟩ := inN_at hn
    have hil := (List.getElem?_eq_some_iff.1 hx).1
    obtain ⟨Av, c, hv, hle, hmx, hgv⟩ := h.sl
    obtain ⟨g, rfl, hbg, hgl⟩ := hgv (by omega)
    subst hv
    obtain ⟨c0, _, _⟩ := h.cells
    obtain ⟨c7, _, f7, _⟩ := h.node hx
    have hup : atN ns (i : Int) Nd.up (-1) = x.up := atN_some hx
    have KK := kids_any x.up W h
    obtain ⟨A, cK, e1, hKle, hKmx, _, hr, ho⟩ := kids_form x.up h
    rw [e1] at KK ho
    have KI := index_any (i : Int) A cK (kdN ns x.up) W hr hKle hKmx
    have hout : ∀ v', outP ns (i : Int) v' = setU (if 0 ≤ Lib.idxOf (kdN ns x.up) (i : Int) then setK ns x.up.toNat v' ((kdN ns x.up).eraseIdx (Lib.idxOf (kdN ns x.up) (i : Int)).toNat) else ns) i (-1) := fun v' => by
      unfold outP outI
      rw [hn, hup, if_pos rfl, Int.toNat_natCast]
    have HOUT := Lib.hid hout
    have hgI : (i : Int) * 10 = ((i * 10 : Nat) : Int) := by omega
    have HKK := Lib.hid KK
    rcases idx_cases (kdN ns x.up) (i : Int) with hi | ⟨k, hi, hk⟩
    · rw [hi] at KI
      have HKI := Lib.hid KI
      have HT := Lib.hid (h.up_ hx (-1))
      have HI := Lib.hid hi
      clear h hn hx hup KK e1 hr ho KI hout hi hgv
      go_enter Try.func38, Try.ntmps38
      go_wp2_with fail
      refine KH.out.mono ?_
      rintro e w1 ⟨rfl, rfl⟩
      go_wp2_with fail
      refine HKK.out.mono ?_
      rintro e w1 ⟨rfl, rfl⟩
      go_wp2_with fail
      refine HKI.out.mono ?_
      rintro e w1 ⟨rfl, rfl⟩
      go_wp2
      go_end0
      refine ⟨rfl, .slice none 0 0, ?_⟩
      rw [HOUT.out, HI.out, if_neg (by decide)]
      exact HT.out
    · rw [hi] at KI
      have HKI := Lib.hid KI
      have HI := Lib.hid hi
      have hup2 : inN ns x.up = true := by
        cases hq : inN ns x.up with
        | true => rfl
        | false => unfold kdN at hk; rw [atN_none hq] at hk; simp at hk
      obtain ⟨p, y, hpu, hy⟩ := inN_at hup2
      have hkd : kdN ns x.up = y.kids := by rw [hpu]; exact atN_some hy
      have hkv : atN ns x.up Nd.kv (.slice none 0 0) = y.kv := by rw [hpu]; exact atN_some hy
      rw [hkv] at e1
      rw [hkd] at e1 ho hk HKK HKI HOUT HI
      rw [hpu] at c7 HKK HOUT
      have hkl := (List.getElem?_eq_some_iff.1 hk).1
      have hpl := (List.getElem?_eq_some_iff.1 hy).1
      obtain ⟨_, c8, _, f8⟩ := h.node hy
      rw [e1] at c8
      have hwr : IntKind.i64.wrap ((k : Int) + 1) = (k : Int) + 1 := by unfold maxLen at hKmx; have h1 : (kdN ns x.up).length = y.kids.length := by rw [hpu]; unfold kdN; rw [atN_some hy]
                                                                        rw [h1] at hKle; rw [IntKind.wrap_i64]; omega
      have KD := delI_any (w := W.drew) (own_keep ho (Below.refl _ W).drew) hkl
      rw [← hwr] at KD
      have HKD := Lib.hid KD
      clear KD hwr
      have H := Lib.hid h
      have HX := Lib.hid hx
      have HY := Lib.hid hy
      have HE1 := Lib.hid e1
      have HUP := Lib.hid hpu
      have hk0 : decide ((0 : Int) ≤ (k : Int)) = true := decide_eq_true (by omega)
      clear h hn hx hup KK e1 hr ho KI hout hi hk hkd hkv hup2 hy hpu hgv
      go_enter Try.func38, Try.ntmps38
      go_wp2_with fail
      refine KH.out.mono ?_
      rintro e w1 ⟨rfl, rfl⟩
      go_wp2_with fail
      refine HKK.out.mono ?_
      rintro e w1 ⟨rfl, rfl⟩
      go_wp2_with fail
      refine HKI.out.mono ?_
      rintro e w1 ⟨rfl, rfl⟩
      go_wp2_with fail
      have FX := Lib.hid (fun (w2 : World) (hg : w1.drew.grownBy w2 (Value.slice A y.kids.length cK).ownBlock) => show w2.cell? ⟨D, 0, none⟩ = some (.slice (some ⟨g, 0, none⟩) ns.length c) ∧ w2.frozen? ⟨g, p * 10 + 8, none⟩ = false ∧ w2.cell? ⟨g, p * 10 + 8, none⟩ = some (.slice A y.kids.length cK) by
        have hk := H.out.kids p y HY.out
        rw [HE1.out] at hk
        have hD : w2.heap[D]? = w1.heap[D]? := hg.block D H.out.lt (fun e => Ytojjdnfkcigdbaa.row_neD hk H.out.hd (by decide) e.symm)
        have hG : w2.heap[g]? = w1.heap[g]? := hg.block g hgl (fun e => rows_neN hk H.out.row (by decide) g e.symm rfl)
        refine ⟨(World.cell?_of_block (a := ⟨D, 0, none⟩) hD).trans c0, ?_, (World.cell?_of_block (a := ⟨g, p * 10 + 8, none⟩) hG).trans c8⟩
        have := f8
        unfold World.frozen? at this ⊢
        rw [hG]
        exact this)
      go_region_law (first | (go_simp; go_at_call 79; refine HKD.out.mono ?_; rintro e w2 ⟨v2, rfl, ho2, hg2, hb2⟩; obtain ⟨A2, c2, hv2⟩ := own_slice ho2; subst hv2; obtain ⟨cD2, cF2, cE2⟩ := FX.out w2 hg2))
      all_goals
        have hmap : (y.kids.map (Value.int .i64)).eraseIdx k = (y.kids.eraseIdx k).map (Value.int .i64) := by simp [List.eraseIdx_eq_take_drop_succ, List.map_take, List.map_drop]
        have hlen : (y.kids.eraseIdx k).length = y.kids.length - 1 := List.length_eraseIdx_of_lt hkl
        have ho3 : w2.ownsRow base 3 1 (.slice A2 (y.kids.length - 1) c2) (y.kids.eraseIdx k).length ((y.kids.eraseIdx k).map (Value.int .i64)) := by rw [hlen, ← hmap]; exact ho2
        have hg1 : w1.grownBy w2 y.kv.ownBlock := by rw [HE1.out]; exact grown_trans (grown_drew w1 _) hg2
        have T1 := H.out.kids_ (v' := .slice A2 (y.kids.length - 1) c2) (ks := y.kids.eraseIdx k) HY.out hg1 ho3 (fun q e => .inl (by rw [HE1.out, ← hb2]; exact e))
        obtain ⟨W3, hW3⟩ : ∃ W3, w2.setCell ⟨g, p * 10 + 8, none⟩ (.slice A2 (y.kids.length - 1) c2) = W3 := ⟨_, rfl⟩
        rw [hW3] at T1
        obtain ⟨ns1, hns1⟩ : ∃ ns1, setK ns p (.slice A2 (y.kids.length - 1) c2) (y.kids.eraseIdx k) = ns1 := ⟨_, rfl⟩
        have hl1 : ns1.length = ns.length := by rw [← hns1]; exact setK_len _ _ _ _
        rw [hns1] at T1
        have h1 := T1.1
        rw [← hl1] at h1
        obtain ⟨x1, hx1⟩ : ∃ x1, ns1[i]? = some x1 := ⟨_, List.getElem?_eq_getElem (by omega)⟩
        obtain ⟨cD3, _, _⟩ := h1.cells
        obtain ⟨_, _, f73, _⟩ := h1.node hx1
        have T2 := h1.up_ hx1 (-1)
        rw [hl1] at T2 cD3
        have T3 := Lib.hid (T1.trans T2)
        have HNS := Lib.hid hns1
        clear T1 T2 h1 hx1 ho2 ho3 hg1 hg2 hb2 hmap hlen cD2 cF2 cE2 HKD FX H c0 c7 c8 f7 f8 KH HKI HKK hns1 hl1
        go_wp2
        go_end0
        refine ⟨rfl, .slice A2 (y.kids.length - 1) c2, ?_⟩
        rw [HOUT.out, HI.out, if_pos (by omega), Int.toNat_natCast, Int.toNat_natCast, HNS.out]
        exact T3.out
end
end Go.Proofs.Ytojjdnfkcigdbaa
namespace Go.Proofs.Ytojjdnfkcigdbaa
open Go.RowKit Go.Shelf Go.Lib

section
variable {base D : Nat} {v : Value} {qk : Bool} {ns : List Nd}
theorem within_any (n top : Int) (W : World) (h : DocM base D v qk ns W) (hl : ns.length ≤ 1000000) : Calls Try.prog 73 #[.pointer (some ⟨D, 0, none⟩), .int .i64 n, .int .i64 top] W fun e W' => e = .returned (.bool (withN ns n top)) ∧ W' = W := by
  unfold withN
  by_cases hnt : n = top
  · rw [if_pos hnt]
    have d0 : (n == top) = true := by rw [hnt]; simp
    clear hnt h
    go_enter Try.func73, Try.ntmps73
    go_wp2
    go_ret
    exact ⟨rfl, rfl⟩
  · rw [if_neg hnt]
    have d0 : (n == top) = false := by rw [beq_eq_false_iff_ne]; exact hnt
    clear hnt
    have KK := kids_any top W h
    obtain ⟨A, c, e1, hle, hmx, _, hr, _⟩ := kids_form top h
    rw [e1] at KK
    have KK := Lib.hid KK
    have KI := Lib.hid (inner_any top W h)
    have KA := Lib.hid (fun m => above_any m W h)
    obtain ⟨c0, _, _⟩ := h.cells
    obtain ⟨Av, cv, hv, _, _, _⟩ := h.sl
    rw [hv] at c0
    obtain ⟨q, hq⟩ : ∃ q, innN ns top = q := ⟨_, rfl⟩
    rw [hq] at KI ⊢
    obtain ⟨L, hL⟩ : ∃ L, (kdN ns top).length = L := ⟨_, rfl⟩
    rw [hL] at KK ⊢
    obtain ⟨Z, hZ⟩ : ∃ Z, climb ns top ns.length n = Z := ⟨_, rfl⟩
    rw [hZ]
    have HZ := Lib.hid hZ
    clear h hr hle hmx hv hq hL e1 hZ
    have tail : ∀ (X : Bool), L ≠ 0 ∨ q ≠ -1 → (if L = 0 ∧ q = -1 then false else X) = X := fun X hx => if_neg (fun e => by omega)
    by_cases hz : L = 0
    · have d1 : ((L : Int) == 0) = true := by rw [hz]; rfl
      have d1' : (L == 0) = true := by rw [hz]; rfl
      by_cases hq : q = -1
      · rw [if_pos ⟨hz, hq⟩]
        have d2 : (q == -1) = true := by rw [hq]; rfl
        clear hz hq
        go_enter Try.func73, Try.ntmps73
        go_wp2_with fail
        refine KK.out.mono ?_
        rintro e w1 ⟨rfl, rfl⟩
        go_wp2_with fail
        refine KI.out.mono ?_
        rintro e w1 ⟨rfl, rfl⟩
        go_wp2
        go_ret
        exact ⟨rfl, rfl⟩
      · rw [tail _ (.inr hq)]
        have d2 : (q == -1) = false := by rw [beq_eq_false_iff_ne]; exact hq
        clear hz hq tail
        go_enter Try.func73, Try.ntmps73
        go_wp2_with fail
        refine KK.out.mono ?_
        rintro e w1 ⟨rfl, rfl⟩
        go_wp2_with fail
        refine KI.out.mono ?_
        rintro e w1 ⟨rfl, rfl⟩
        go_wp2
        go_loopw [1, 26] (fun nv kv wx => ∃ (m : Int) (k : Nat), k ≤ ns.length ∧ nv = .int .i64 m ∧ kv = .int .i64 k ∧ wx = w1 ∧ Hid (climb ns top (ns.length - k) m = Z)) (fun _ kv _ => ns.length - (intOf kv).toNat)
        case atStart => exact ⟨n, 0, Nat.zero_le _, rfl, rfl, rfl, HZ⟩
        case round =>
          obtain ⟨m, k, hk, rfl, rfl, rfl, HC⟩ := hrel
          by_cases hkl : k < ns.length
          · have hsub : ns.length - k = (ns.length - (k + 1)) + 1 := by omega
            have hc := HC.out
            rw [hsub] at hc
            unfold climb at hc
            have HC2 := Lib.hid hc
            obtain ⟨u, hu⟩ : ∃ u, aboveN ns m = u := ⟨_, rfl⟩
            have KAm := Lib.hid (KA.out m)
            rw [hu] at KAm HC2
            clear hc hsub HC hu
            by_cases h1 : u = top
            · have e1 : (u == top) = true := by rw [h1]; simp
              have HF := HC2.out
              rw [if_pos (.inl h1)] at HF
              have HB : Hid ((Z == top) = true) := Lib.hid (by rw [← HF]; exact e1)
              clear h1 HC2 HF
              go_wp2_with fail
              refine KAm.out.mono ?_
              rintro e w2 ⟨rfl, rfl⟩
              go_wp2
              go_ret
              exact ⟨by rw [HB.out]; rfl, rfl⟩
            · have e1 : (u == top) = false := by rw [beq_eq_false_iff_ne]; exact h1
              by_cases h2 : u = -1
              · have e2 : (u == -1) = true := by rw [h2]; rfl
                have HF := HC2.out
                rw [if_pos (.inr h2)] at HF
                have HB : Hid ((Z == top) = false) := Lib.hid (by rw [← HF]; exact e1)
                clear h1 h2 HC2 HF
                go_wp2_with fail
                refine KAm.out.mono ?_
                rintro e w2 ⟨rfl, rfl⟩
                go_wp2
                go_ret
                exact ⟨by rw [HB.out]; rfl, rfl⟩
              · have e2 : (u == -1) = false := by rw [beq_eq_false_iff_ne]; exact h2
                have HF := HC2.out
                rw [if_neg (fun e => by rcases e with e | e; exact h1 e; exact h2 e)] at HF
                have HF := Lib.hid HF
                clear h1 h2 HC2
                go_wp2_with fail
                refine KAm.out.mono ?_
                rintro e w2 ⟨rfl, rfl⟩
                go_wp2
                go_roundw
                case rel => exact ⟨u, k + 1, by omega, rfl, by go_num, by first | rfl | trivial, HF⟩
                case measure => simp [intOf]; omega
          · obtain rfl : k = ns.length := by omega
            have hc := HC.out
            rw [Nat.sub_self] at hc
            have HF : Hid (m = Z) := Lib.hid hc
            clear hc HC hkl
            obtain ⟨bb, hbb⟩ : ∃ bb, (m == top) = bb := ⟨_, rfl⟩
            have HB : Hid ((Z == top) = bb) := Lib.hid (by rw [← HF.out]; exact hbb)
            clear HF
            go_wp2
            go_ret
            exact ⟨by rw [HB.out, ← hbb]; rfl, rfl⟩
    · rw [tail _ (.inl hz)]
      have d1 : ((L : Int) == 0) = false := by rw [beq_eq_false_iff_ne]; omega
      have d1' : (L == 0) = false := by rw [beq_eq_false_iff_ne]; exact hz
      clear hz tail
      go_enter Try.func73, Try.ntmps73
      go_wp2_with fail
      refine KK.out.mono ?_
      rintro e w1 ⟨rfl, rfl⟩
      go_wp2
      go_loopw [1, 26] (fun nv kv wx => ∃ (m : Int) (k : Nat), k ≤ ns.length ∧ nv = .int .i64 m ∧ kv = .int .i64 k ∧ wx = w1 ∧ Hid (climb ns top (ns.length - k) m = Z)) (fun _ kv _ => ns.length - (intOf kv).toNat)
      case atStart => exact ⟨n, 0, Nat.zero_le _, rfl, rfl, rfl, HZ⟩
      case round =>
        obtain ⟨m, k, hk, rfl, rfl, rfl, HC⟩ := hrel
        by_cases hkl : k < ns.length
        · have hsub : ns.length - k = (ns.length - (k + 1)) + 1 := by omega
          have hc := HC.out
          rw [hsub] at hc
          unfold climb at hc
          have HC2 := Lib.hid hc
          obtain ⟨u, hu⟩ : ∃ u, aboveN ns m = u := ⟨_, rfl⟩
          have KAm := Lib.hid (KA.out m)
          rw [hu] at KAm HC2
          clear hc hsub HC hu
          by_cases h1 : u = top
          · have e1 : (u == top) = true := by rw [h1]; simp
            have HF := HC2.out
            rw [if_pos (.inl h1)] at HF
            have HB : Hid ((Z == top) = true) := Lib.hid (by rw [← HF]; exact e1)
            clear h1 HC2 HF
            go_wp2_with fail
            refine KAm.out.mono ?_
            rintro e w2 ⟨rfl, rfl⟩
            go_wp2
            go_ret
            exact ⟨by rw [HB.out]; rfl, rfl⟩
          · have e1 : (u == top) = false := by rw [beq_eq_false_iff_ne]; exact h1
            by_cases h2 : u = -1
            · have e2 : (u == -1) = true := by rw [h2]; rfl
              have HF := HC2.out
              rw [if_pos (.inr h2)] at HF
              have HB : Hid ((Z == top) = false) := Lib.hid (by rw [← HF]; exact e1)
              clear h1 h2 HC2 HF
              go_wp2_with fail
              refine KAm.out.mono ?_
              rintro e w2 ⟨rfl, rfl⟩
              go_wp2
              go_ret
              exact ⟨by rw [HB.out]; rfl, rfl⟩
            · have e2 : (u == -1) = false := by rw [beq_eq_false_iff_ne]; exact h2
              have HF := HC2.out
              rw [if_neg (fun e => by rcases e with e | e; exact h1 e; exact h2 e)] at HF
              have HF := Lib.hid HF
              clear h1 h2 HC2
              go_wp2_with fail
              refine KAm.out.mono ?_
              rintro e w2 ⟨rfl, rfl⟩
              go_wp2
              go_roundw
              case rel => exact ⟨u, k + 1, by omega, rfl, by go_num, by first | rfl | trivial, HF⟩
              case measure => simp [intOf]; omega
        · obtain rfl : k = ns.length := by omega
          have hc := HC.out
          rw [Nat.sub_self] at hc
          have HF : Hid (m = Z) := Lib.hid hc
          clear hc HC hkl
          obtain ⟨bb, hbb⟩ : ∃ bb, (m == top) = bb := ⟨_, rfl⟩
          have HB : Hid ((Z == top) = bb) := Lib.hid (by rw [← HF.out]; exact hbb)
          clear HF
          go_wp2
          go_ret
          exact ⟨by rw [HB.out, ← hbb]; rfl, rfl⟩
end
end Go.Proofs.Ytojjdnfkcigdbaa
namespace Go.Proofs.Ytojjdnfkcigdbaa
open Go.RowKit Go.Shelf Go.Lib

def hldB (ns : List Nd) (up : Int) : Bool := atN ns up Nd.kind 0 == 1 || atN ns up Nd.kind 0 == 2
/-- whether a node may be put: no fault in what is asked -/
def putB (ns : List Nd) (up n before : Int) : Bool := hldB ns up && inN ns n && !(atN ns n Nd.kind 0 == 1) && !(before == n) && !(withN ns up n)
def putE (ns : List Nd) (up n before : Int) : Int := if putB ns up n before then (if plcB ns up before then 0 else 4) else 1
def putP (ns : List Nd) (up n before : Int) (v1 v2 : Value) : List Nd :=
  if putB ns up n before && plcB ns up before then
    setU (setK (outP ns n v1) up.toNat v2 ((kdN (outP ns n v1) up).take (plcN (outP ns n v1) up before).toNat ++ n :: (kdN (outP ns n v1) up).drop (plcN (outP ns n v1) up before).toNat)) n.toNat up
  else ns
theorem hld_in {ns : List Nd} {up : Int} (h : hldB ns up = true) : inN ns up = true := by
  cases hq : inN ns up with
  | true => rfl
  | false => unfold hldB at h; rw [atN_none hq] at h; cases h
theorem outP_len (ns : List Nd) (n : Int) (v : Value) : (outP ns n v).length = ns.length := by
  unfold outP
  split
  · rw [setU_len]
    split
    · rw [setK_len]
    · rfl
  · rfl
theorem inN_len {ns ns' : List Nd} (h : ns'.length = ns.length) (n : Int) : inN ns' n = inN ns n := by
  unfold inN
  rw [h]
theorem setU_get {ns : List Nd} {i : Nat} {u : Int} {j : Nat} {y : Nd} (h : ns[j]? = some y) : ∃ y', (setU ns i u)[j]? = some y' ∧ y'.kids = y.kids ∧ y'.kv = y.kv ∧ (j ≠ i → y' = y) := by
  unfold setU
  cases hx : ns[i]? with
  | none => exact ⟨y, h, rfl, rfl, fun _ => rfl⟩
  | some x =>
    by_cases e : j = i
    · subst e
      rw [hx] at h
      cases h
      exact ⟨_, List.getElem?_set_self (List.getElem?_eq_some_iff.1 hx).1, rfl, rfl, fun h => absurd rfl h⟩
    · exact ⟨y, by rw [List.getElem?_set_ne (fun h => e h.symm)]; exact h, rfl, rfl, fun _ => rfl⟩
theorem setK_get {ns : List Nd} {i : Nat} {v : Value} {ks : List Int} {j : Nat} {y : Nd} (h : ns[j]? = some y) : ∃ y', (setK ns i v ks)[j]? = some y' ∧ y'.kids = (if j = i then ks else y.kids) := by
  unfold setK
  cases hx : ns[i]? with
  | none =>
    have : j ≠ i := fun e => by rw [e, hx] at h; cases h
    exact ⟨y, h, by rw [if_neg this]⟩
  | some x =>
    by_cases e : j = i
    · subst e
      exact ⟨_, List.getElem?_set_self (List.getElem?_eq_some_iff.1 hx).1, by rw [if_pos rfl]⟩
    · exact ⟨y, by rw [List.getElem?_set_ne (fun h => e h.symm)]; exact h, by rw [if_neg e]⟩
/-- a node's kids behind an Out: as they were, or without the one -/
theorem out_kids {ns : List Nd} {n : Int} {v : Value} {p : Nat} {y : Nd} (hy : ns[p]? = some y) : ∃ y', (outP ns n v)[p]? = some y' ∧ (y'.kids = y.kids ∨ ∃ k : Nat, y.kids[k]? = some n ∧ y'.kids = y.kids.eraseIdx k) := by
  unfold outP
  cases hn : inN ns n with
  | false => rw [if_neg (by decide)]; exact ⟨y, hy, .inl rfl⟩
  | true =>
    rw [if_pos rfl]
    by_cases h0 : 0 ≤ outI ns n
    · rw [if_pos h0]
      obtain ⟨y1, hy1, hk1⟩ := setK_get (i := (atN ns n Nd.up (-1)).toNat) (v := v) (ks := (kdN ns (atN ns n Nd.up (-1))).eraseIdx (outI ns n).toNat) hy
      obtain ⟨y2, hy2, hk2, _, _⟩ := setU_get (i := n.toNat) (u := -1) hy1
      refine ⟨y2, hy2, ?_⟩
      rw [hk2, hk1]
      by_cases e : p = (atN ns n Nd.up (-1)).toNat
      · rw [if_pos e]
        rcases idx_cases (kdN ns (atN ns n Nd.up (-1))) n with h | ⟨k, h, hk⟩
        · have : outI ns n = -1 := h
          omega
        · have hu : inN ns (atN ns n Nd.up (-1)) = true := by
            cases hq : inN ns (atN ns n Nd.up (-1)) with
            | true => rfl
            | false => unfold kdN at hk; rw [atN_none hq] at hk; simp at hk
          obtain ⟨q, z, hqu, hz⟩ := inN_at hu
          have hpq : p = q := by rw [e, hqu, Int.toNat_natCast]
          subst hpq
          rw [hy] at hz
          cases hz
          have hkd : kdN ns (atN ns n Nd.up (-1)) = y.kids := by rw [hqu]; exact atN_some hy
          rw [hkd] at hk
          right
          refine ⟨k, hk, ?_⟩
          have : (outI ns n).toNat = k := by unfold outI; rw [h, Int.toNat_natCast]
          rw [this, hkd]
      · rw [if_neg e]
        exact .inl rfl
    · rw [if_neg h0]
      obtain ⟨y2, hy2, hk2, _, _⟩ := setU_get (i := n.toNat) (u := -1) hy
      exact ⟨y2, hy2, .inl hk2⟩
theorem mem_erase {l : List Int} {k : Nat} {n b : Int} (hk : l[k]? = some n) (hb : b ∈ l) (hne : b ≠ n) : b ∈ l.eraseIdx k := by
  obtain ⟨j, hj⟩ := List.mem_iff_getElem?.1 hb
  have hjk : j ≠ k := fun e => by rw [e, hk] at hj; cases hj; exact hne rfl
  rw [List.mem_iff_getElem?]
  rcases Nat.lt_or_ge j k with h | h
  · exact ⟨j, by rw [List.getElem?_eraseIdx_of_lt h]; exact hj⟩
  · refine ⟨j - 1, ?_⟩
    rw [List.getElem?_eraseIdx_of_ge (by omega), Nat.sub_add_cancel (by omega)]
    exact hj
/-- the place, behind an Out -/
theorem plc_out {ns : List Nd} {up n before : Int} {v : Value} (hup : inN ns up = true) (hb : before ≠ n) (hp : plcB ns up before = true) : ∃ k : Nat, plcN (outP ns n v) up before = (k : Int) ∧ k ≤ (kdN (outP ns n v) up).length := by
  obtain ⟨p, y, rfl, hy⟩ := inN_at hup
  obtain ⟨y', hy', hk⟩ := out_kids (n := n) (v := v) hy
  have h1 : kdN (outP ns n v) (p : Int) = y'.kids := atN_some hy'
  have h2 : kdN ns (p : Int) = y.kids := atN_some hy
  unfold plcN
  unfold plcB at hp
  rw [h1]
  rw [h2] at hp
  by_cases h0 : before = -1
  · rw [if_pos h0]
    exact ⟨_, rfl, Nat.le_refl _⟩
  · rw [if_neg h0] at hp ⊢
    have hp := of_decide_eq_true hp
    rw [idxOf_nonneg_iff] at hp
    have hm : before ∈ y.kids := by simpa using hp
    have hm' : before ∈ y'.kids := by
      rcases hk with hk | ⟨k, hk, e⟩
      · rw [hk]; exact hm
      · rw [e]; exact mem_erase hk hm hb
    have hge : (0 : Int) ≤ Lib.idxOf y'.kids before := by rw [idxOf_nonneg_iff]; simpa using hm'
    rcases idx_cases y'.kids before with h | ⟨k, h, hk⟩
    · omega
    · exact ⟨k, h, Nat.le_of_lt (List.getElem?_eq_some_iff.1 hk).1⟩
end Go.Proofs.Ytojjdnfkcigdbaa
