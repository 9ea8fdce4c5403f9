/- Scope, of the usual kind. -/
import Derived.Test.YtfkbjniodomdjaaSc
import Derived.Test.YtfkbjniodomdjaaSi
import Derived.Test.YtfkbjniodomdjaaSj
import Derived.Stop.RegionWithIn
namespace Go.Proofs.Ytfkbjniodomdjaa
open Go.RowKit Go.Shelf Go.Lib
attribute [local go_sem] Oper.semAt_some

/-- what a look finds: the list from the innermost one on -/
def lookB (f b : Int → Bool) : List Int → Bool
  | [] => false
  | x :: xs => if f x then true else if b x then false else lookB f b xs
section
variable {base D T B1 B2 : Nat} {v va : Value} {qk : Bool} {ns : List Nd} {xs : List Int} {zs : List ByteArray} {A : Option Addr} {cap : Nat}
/-- what a look reads -/
structure LkM (base D T B1 B2 : Nat) (v va : Value) (qk : Bool) (ns : List Nd) (xs : List Int) (zs : List ByteArray) (A : Option Addr) (cap : Nat) (W : World) : Prop where
  doc : DocM base D v qk ns W
  st : StM T (.pointer (some ⟨D, 0, none⟩)) va xs W
  b1 : W.heap[B1]? = some (.cells #[.pointer (some ⟨T, 0, none⟩)] 69 (0, 0))
  b2 : W.heap[B2]? = some (.cells #[.slice A zs.length cap] 73 (0, 0))
  rd : RdT W A zs
  zl : zs.length ≤ 1000000
theorem LkM.below {W W' : World} (h : LkM base D T B1 B2 v va qk ns xs zs A cap W) (hb : Below W.heap.size W W') : LkM base D T B1 B2 v va qk ns xs zs A cap W' :=
  ⟨h.doc.below hb, h.st.below hb, (hb.block _ (Array.getElem?_eq_some_iff.1 h.b1).1).trans h.b1, (hb.block _ (Array.getElem?_eq_some_iff.1 h.b2).1).trans h.b2, h.rd.below hb, h.zl⟩
theorem sc_any (n : Int) (W : World) (h : LkM base D T B1 B2 v va qk ns xs zs A cap W) : Calls Try.prog 85 #[.int .i64 n, .pointer (some ⟨B1, 0, none⟩), .pointer (some ⟨B2, 0, none⟩)] W fun e W' => e = .returned (.bool (isN ns n zs)) ∧ ∃ q, W' = W.drewN q := by
  have hT0 := fun q => (h.below (W' := W.drewN q) (below_drewN (Below.refl _ W) q))
  have KI := Lib.hid (fun q => is_any n zs A cap (W.drewN q) (hT0 q).doc (hT0 q).rd h.zl)
  have c1 : W.cell? ⟨B1, 0, none⟩ = some (.pointer (some ⟨T, 0, none⟩)) := by rw [cell_of_row _ _ _ _ _ _ h.b1]; rfl
  have c2 : W.cell? ⟨B2, 0, none⟩ = some (.slice A zs.length cap) := by rw [cell_of_row _ _ _ _ _ _ h.b2]; rfl
  obtain ⟨c3, _, _⟩ := h.st.cells
  clear h hT0
  go_enter Try.func85, Try.ntmps85
  go_wp2_with fail
  go_quiet ((go_at_call 41; refine Calls.quiet_of_same (KI.out _)))
  go_wp2
  go_ret
  exact ⟨rfl, _, rfl⟩
/-- between two rounds: nothing has turned but what is new, and nothing was found -/
structure LkI (R : Nat) (f b : Int → Bool) (w0 : World) (pre : List (Nat × Int)) (W : World) : Prop where
  fr : Frm (fun k => k = R) w0 W
  rs : W.heap[R]? = some (.cells #[.bool false] 4 (0, 0))
  un : ∀ x ∈ pre, f x.2 = false ∧ b x.2 = false
/-- where a round has left -/
def LkX (R : Nat) (f b : Int → Bool) (w0 : World) (pre : List (Nat × Int)) (W : World) : Prop :=
  ∃ pre0 x r, pre = pre0 ++ [x] ∧ (∀ x ∈ pre0, f x.2 = false ∧ b x.2 = false) ∧ (if f x.2 then r = true else b x.2 = true ∧ r = false) ∧ Frm (fun k => k = R) w0 W ∧ W.heap[R]? = some (.cells #[.bool r] 4 (0, 0))
theorem lookB_pre {f b : Int → Bool} : ∀ (pre : List (Nat × Int)) (x : Nat × Int) (rest : List (Nat × Int)) (r : Bool), (∀ x ∈ pre, f x.2 = false ∧ b x.2 = false) → (if f x.2 then r = true else b x.2 = true ∧ r = false) → lookB f b ((pre ++ x :: rest).map (·.2)) = r
  | [], x, rest, r, _, hx => by
    simp only [List.nil_append, List.map_cons, lookB]
    cases hf : f x.2 with
    | true => rw [hf] at hx; simpa using hx.symm
    | false => rw [hf] at hx; simp at hx; simp [hx.1, hx.2]
  | y :: pre, x, rest, r, hp, hx => by
    have h1 := hp y (by simp)
    simp only [List.cons_append, List.map_cons, lookB, h1.1, h1.2]
    exact lookB_pre pre x rest r (fun z hz => hp z (by simp [hz])) hx
theorem lookB_none {f b : Int → Bool} : ∀ (pre : List (Nat × Int)), (∀ x ∈ pre, f x.2 = false ∧ b x.2 = false) → lookB f b (pre.map (·.2)) = false
  | [], _ => rfl
  | y :: pre, hp => by
    have h1 := hp y (by simp)
    simp only [List.map_cons, lookB, h1.1, h1.2]
    exact lookB_none pre (fun z hz => hp z (by simp [hz]))
theorem rvp_snd (xs : List Int) : ∀ p, p ≤ xs.length → (rvp xs p).map (·.2) = (xs.take p).reverse
  | 0, _ => by simp [rvp]
  | p + 1, h => by
    have hp : p < xs.length := by omega
    rw [List.take_succ_eq_append_getElem hp, List.reverse_append]
    simp only [rvp, List.map_cons, rvp_snd xs p (by omega), List.getElem?_eq_getElem hp, Option.getD_some, List.reverse_cons, List.reverse_nil, List.nil_append, List.cons_append]
theorem frm_own {R : Nat} {w0 X Y : World} {row : Option Nat} (h : Frm (fun k => k = R) w0 X) (hg : X.grownBy Y row) (hr : ∀ r, row = some r → w0.heap.size ≤ r) : Frm (fun k => k = R) w0 Y :=
  h.trans' (Frm.grown (S := fun k => row = some k) hg (fun _ e => e)) (fun _ e => .inr (hr _ e))
theorem rs_own {R : Nat} {w0 X Y : World} {row : Option Nat} {o : Obj} (hR : R < w0.heap.size) (h : X.heap[R]? = some o) (hg : X.grownBy Y row) (hr : ∀ r, row = some r → w0.heap.size ≤ r) : Y.heap[R]? = some o :=
  (hg.block R (Array.getElem?_eq_some_iff.1 h).1 (fun e => by have := hr R e.symm; omega)).trans h
theorem LkI.own {R : Nat} {f b : Int → Bool} {w0 : World} (hR : R < w0.heap.size) : OwnFrom w0.heap.size (fun pre W => LkI R f b w0 pre W) := by
  rintro s X Y row h hg hr
  exact ⟨frm_own h.fr hg (fun r e => (hr r e).1), rs_own hR h.rs hg (fun r e => (hr r e).1), h.un⟩
theorem LkX.own {R : Nat} {f b : Int → Bool} {w0 : World} (hR : R < w0.heap.size) : OwnFrom w0.heap.size (fun pre W => LkX R f b w0 pre W) := by
  rintro s X Y row ⟨pre0, x, r, h1, h2, h3, h4, h5⟩ hg hr
  exact ⟨pre0, x, r, h1, h2, h3, frm_own h4 hg (fun r e => (hr r e).1), rs_own hR h5 hg (fun r e => (hr r e).1)⟩
theorem srcB_kt {B0 : Nat} {A : Option Addr} {cap : Nat} {xs : List Int} : ∀ {X Y Z : World}, (SrcB B0 A cap xs X → SrcB B0 A cap xs Y) → (SrcB B0 A cap xs Y → SrcB B0 A cap xs Z) → (SrcB B0 A cap xs X → SrcB B0 A cap xs Z) := fun h k x => k (h x)
theorem SrcB.grown {B0 : Nat} {A : Option Addr} {cap : Nat} {xs : List Int} {W W' : World} {row : Option Nat} (h : SrcB B0 A cap xs W) (hg : W.grownBy W' row) (h1 : row ≠ some B0) (h2 : ∀ ad, A = some ad → ad.block < W.heap.size → row ≠ some ad.block) : SrcB B0 A cap xs W' := by
  refine ⟨(hg.block B0 (Array.getElem?_eq_some_iff.1 h.box).1 (fun e => h1 e.symm)).trans h.box, ?_⟩
  rcases h.rd with h' | ⟨b, off, rfl, hl, h'⟩
  · exact .inl h'
  · exact .inr ⟨b, off, rfl, Nat.lt_of_lt_of_le hl hg.size, fun i hi => (World.cell?_of_block (a := ⟨b, off + i, none⟩) (hg.block b hl (fun e => h2 _ rfl hl e.symm))).trans (h' i hi)⟩
theorem srcB_kb {B0 : Nat} {A : Option Addr} {cap : Nat} {xs : List Int} (hx : 0 < xs.length) (W : World) (l : Nat) (o o' : Obj) (hl : W.heap[l]? = some o) (ho : o.isCells = false) : SrcB B0 A cap xs W → SrcB B0 A cap xs (W.putObj l o') := by
  intro h
  refine h.grown (grownBy_putObj' W l o') ?_ ?_
  · rintro e
    cases e
    have := h.box
    rw [hl] at this
    cases this
    cases ho
  · rintro ad rfl hlt e
    cases e
    obtain ⟨b, off, hA, hb, hc⟩ := h.rd.pos hx
    cases hA
    have h0 := hc 0 hx
    simp only [World.cell?] at h0
    rw [hl] at h0
    cases o <;> first | (cases ho; done) | (simp at h0; done)
theorem ko_below {X Y : World} (h : Below X.heap.size X Y) : KeepsOthers X Y :=
  KeepsOthers.of_grownBy (row := none) ⟨h.os, h.tape, h.output, h.size, fun k hk _ => h.block k hk⟩ (fun _ _ e => by cases e)
theorem lk_ret {R : Nat} {f b : Int → Bool} {w0 X Y : World} {pre : List (Nat × Int)} {x : Nat × Int} (r : Bool) (hI : LkI R f b w0 pre X) (hb : Below X.heap.size X Y) (hc : if f x.2 then r = true else b x.2 = true ∧ r = false) :
    KeepsOthers X (Y.setCell ⟨R, 0, none⟩ (.bool r)) ∧ LkX R f b w0 (pre ++ [x]) (Y.setCell ⟨R, 0, none⟩ (.bool r)) := by
  have hY := (hb.block R (Array.getElem?_eq_some_iff.1 hI.rs).1).trans hI.rs
  exact ⟨(ko_below hb).trans (KeepsOthers.setCell _ _ _), pre, x, r, rfl, hI.un, hc, (hI.fr.trans (Frm.below hb)).trans (Frm.set _ rfl), heap_setCell_same _ R 0 _ _ _ hY⟩
theorem lk_go {R B0 : Nat} {As : Option Addr} {cs : Nat} {f b : Int → Bool} {w0 X Y : World} {pre : List (Nat × Int)} {x : Nat × Int} (hI : LkI R f b w0 pre X) (hb : Below X.heap.size X Y) (hf : f x.2 = false) (hbb : b x.2 = false) :
    KeepsOthers X Y ∧ (SrcB B0 As cs xs X → SrcB B0 As cs xs Y) ∧ LkI R f b w0 (pre ++ [x]) Y := by
  refine ⟨ko_below hb, fun h => ⟨(hb.block B0 (Array.getElem?_eq_some_iff.1 h.box).1).trans h.box, h.rd.below hb⟩, hI.fr.trans (Frm.below hb), (hb.block R (Array.getElem?_eq_some_iff.1 hI.rs).1).trans hI.rs, ?_⟩
  intro y hy
  rcases List.mem_append.1 hy with h | h
  · exact hI.un y h
  · simp at h
    subst h
    exact ⟨hf, hbb⟩
set_option maxRecDepth 100000 in
set_option maxHeartbeats 4000000 in
theorem look_usual (W : World) (h : LkM base D T B1 B2 v va qk ns xs zs A cap W) (hx : xs.length ≤ 1000000) (hpos : 0 < xs.length) : Calls Try.prog 84 #[.pointer (some ⟨T, 0, none⟩), .int .i64 0, .func (.func 85) #[] #[.pointer (some ⟨B1, 0, none⟩), .pointer (some ⟨B2, 0, none⟩)]] W fun e W' => e = .returned (.bool (lookB (fun n => isN ns n zs) (bUs ns) xs.reverse)) ∧ Below W.heap.size W W' := by
  refine (callsIn_wide (n := 9)).1 ?_
  refine callsIn_of_wp_marks Try.func84 rfl trivial ?_ rfl
  simp only [Try.ntmps84, List.size_toArray, List.length_cons, List.length_nil, Nat.reduceAdd, Nat.reduceSub, Array.replicate_succ, Array.replicate_zero, List.push_toArray, List.append_toArray, List.nil_append, List.cons_append]
  obtain ⟨W0, hW0⟩ : ∃ W0, (((W.alloc (.cells #[.pointer (some ⟨T, 0, none⟩)] 69)).alloc (.cells #[.int .i64 0] 3)).alloc (.cells #[.func (.func 85) #[] #[.pointer (some ⟨B1, 0, none⟩), .pointer (some ⟨B2, 0, none⟩)]] 64)).alloc (.cells #[.bool false] 4) = W0 := ⟨_, rfl⟩
  have hb0 : Below W.heap.size W W0 := by rw [← hW0]; exact ((((Below.refl _ W).alloc (Nat.le_refl _) _).alloc (by simp) _).alloc (by simp; omega) _).alloc (by simp; omega) _
  have hs0 : W0.heap.size = W.heap.size + 4 := by rw [← hW0]; simp
  have k0 : W0.heap[W.heap.size]? = some (.cells #[.pointer (some ⟨T, 0, none⟩)] 69 (0, 0)) := by
    rw [← hW0, Below.heap_alloc _ _ _ (by first | (simp; done) | (simp; omega)), Below.heap_alloc _ _ _ (by first | (simp; done) | (simp; omega)), Below.heap_alloc _ _ _ (by simp)]
    exact heap_alloc_new W _
  have k1 : W0.heap[W.heap.size + 1]? = some (.cells #[.int .i64 0] 3 (0, 0)) := by
    rw [← hW0, Below.heap_alloc _ _ _ (by first | (simp; done) | (simp; omega)), Below.heap_alloc _ _ _ (by simp)]
    have := heap_alloc_new (W.alloc (.cells #[.pointer (some ⟨T, 0, none⟩)] 69)) (.cells #[.int .i64 0] 3)
    simpa using this
  have k2 : W0.heap[W.heap.size + 2]? = some (.cells #[.func (.func 85) #[] #[.pointer (some ⟨B1, 0, none⟩), .pointer (some ⟨B2, 0, none⟩)]] 64 (0, 0)) := by
    rw [← hW0, Below.heap_alloc _ _ _ (by simp)]
    have := heap_alloc_new ((W.alloc (.cells #[.pointer (some ⟨T, 0, none⟩)] 69)).alloc (.cells #[.int .i64 0] 3)) (.cells #[.func (.func 85) #[] #[.pointer (some ⟨B1, 0, none⟩), .pointer (some ⟨B2, 0, none⟩)]] 64)
    simpa using this
  have k3 : W0.heap[W.heap.size + 3]? = some (.cells #[.bool false] 4 (0, 0)) := by
    rw [← hW0]
    have := heap_alloc_new (((W.alloc (.cells #[.pointer (some ⟨T, 0, none⟩)] 69)).alloc (.cells #[.int .i64 0] 3)).alloc (.cells #[.func (.func 85) #[] #[.pointer (some ⟨B1, 0, none⟩), .pointer (some ⟨B2, 0, none⟩)]] 64)) (.cells #[.bool false] 4)
    simpa using this
  have c0 : W0.cell? ⟨W.heap.size, 0, none⟩ = some (.pointer (some ⟨T, 0, none⟩)) := by rw [cell_of_row _ _ _ _ _ _ k0]; rfl
  have h0 := h.below hb0
  have KN := Lib.hid (nodes_any W0 h0.st)
  obtain ⟨As, cs, rfl, hnil, hcs, hrs⟩ := h0.st.rd.form
  have KB := Lib.hid (back_any As cs xs W0 hrs)
  have H0 := Lib.hid h0
  have HB0 := Lib.hid hb0
  have HK0 := Lib.hid k0
  have HK1 := Lib.hid k1
  have HK2 := Lib.hid k2
  have HK3 := Lib.hid k3
  have HS0 := Lib.hid hs0
  have H := Lib.hid h
  clear h h0 hb0 k0 k1 k2 k3 hs0 hrs hnil hcs
  gi_wp2
  refine ⟨trivial, (callsIn_wide.2 KN.out).mono ?_⟩
  rintro e w1 ⟨rfl, rfl⟩
  gi_wp2
  refine ⟨trivial, (callsIn_wide.2 KB.out).mono ?_⟩
  rintro e W1 ⟨rfl, hS1, hb1, hs1⟩
  gi_wp2
  have hB1 : Below W.heap.size W W1 := HB0.out.trans (hb1.mono HB0.out.size)
  have hR : W.heap.size + 3 < W1.heap.size := by have := HS0.out; omega
  have q0 := (hb1.block _ (by have := HS0.out; omega)).trans HK0.out
  have q1 := (hb1.block _ (by have := HS0.out; omega)).trans HK1.out
  have q2 := (hb1.block _ (by have := HS0.out; omega)).trans HK2.out
  have q3 := (hb1.block _ (by have := HS0.out; omega)).trans HK3.out
  have hB0ne : W.heap.size + 3 ≠ w1.heap.size := by have := HS0.out; omega
  have hAs : ∀ ad, As = some ad → 0 < xs.length → ad.block < W.heap.size := by
    intro ad e hp
    obtain ⟨A', c', e1, _, _, hr⟩ := H.out.st.rd.form
    injection e1 with e1
    subst e1
    obtain ⟨b, off, e2, hb, _⟩ := hr.pos hp
    rw [e] at e2
    injection e2 with e2
    rw [e2]
    exact hb
  -- what is known in a round's world
  have far : ∀ X, Frm (fun k => k = W.heap.size + 3) W1 X → Below W.heap.size W X ∧ X.heap[W.heap.size]? = some (.cells #[.pointer (some ⟨T, 0, none⟩)] 69 (0, 0)) ∧ X.heap[W.heap.size + 1]? = some (.cells #[.int .i64 0] 3 (0, 0)) ∧ X.heap[W.heap.size + 2]? = some (.cells #[.func (.func 85) #[] #[.pointer (some ⟨B1, 0, none⟩), .pointer (some ⟨B2, 0, none⟩)]] 64 (0, 0)) := by
    intro X hX
    exact ⟨hB1.trans (hX.toBelow hB1.size (fun k e => by omega)), (hX.block _ (by omega) (by omega)).trans q0, (hX.block _ (by omega) (by omega)).trans q1, (hX.block _ (by omega) (by omega)).trans q2⟩
  have FAR := Lib.hid far
  have HS1 := Lib.hid hS1
  have HAS := Lib.hid hAs
  have HB0NE := Lib.hid hB0ne
  have HR := Lib.hid hR
  have HQ3 := Lib.hid q3
  have HXX := Lib.hid hx
  have HPOS := Lib.hid hpos
  obtain ⟨B0, hB0⟩ : ∃ B0, w1.heap.size = B0 := ⟨_, rfl⟩
  rw [hB0] at HS1 HB0NE ⊢
  clear hS1 hAs hB0ne hR q0 q1 q2 q3 far hb1 hs1 hB1 c0 KN KB HK0 HK1 HK2 HK3 HS0 HB0 H0 hB0 hW0 hx hpos
  refine wpIn_rangeFunc_ownF (F := Fence.wide) (n := 9) rfl (by omega) (gf := 88) (lb := #[.pointer (some ⟨B0, 0, none⟩)]) rfl trivial (enters_of Try.func88 (by kernel_rfl) rfl)
    (back_stops 8 (by omega) xs B0 As cs HXX.out W1 HS1.out) srcB_kt (fun W l o o' _ h1 h2 _ => srcB_kb HPOS.out W l o o' h1 h2) (Below.refl _ _) (fun _ => rfl)
    (fun pre X => LkI (W.heap.size + 3) (fun n => isN ns n zs) (bUs ns) W1 pre X)
    (fun c pre X => c = Code.ret ∧ LkX (W.heap.size + 3) (fun n => isN ns n zs) (bUs ns) W1 pre X)
    (LkI.own HR.out)
    (fun c s X Y row hs hg hr => ⟨hs.1, LkX.own HR.out s X Y row hs.2 hg hr⟩)
    ⟨Frm.refl _ _, HQ3.out, fun x hx => by cases hx⟩
    ?a1 ?assign ?body ?done ?stop
  case assign =>
    intro l x X K hK
    gi_wp2
    exact hK
  case body =>
    rintro l pre x X hI _
    obtain ⟨hBX, x0, x1, x2⟩ := FAR.out X hI.fr
    have c0 : X.cell? ⟨W.heap.size, 0, none⟩ = some (.pointer (some ⟨T, 0, none⟩)) := by rw [cell_of_row _ _ _ _ _ _ x0]; rfl
    have c1 : X.cell? ⟨W.heap.size + 1, 0, none⟩ = some (.int .i64 0) := by rw [cell_of_row _ _ _ _ _ _ x1]; rfl
    have c2 : X.cell? ⟨W.heap.size + 1 + 1, 0, none⟩ = some (.func (.func 85) #[] #[.pointer (some ⟨B1, 0, none⟩), .pointer (some ⟨B2, 0, none⟩)]) := by rw [cell_of_row _ _ _ _ _ _ x2]; rfl
    have c3 : X.cell? ⟨W.heap.size + 1 + 1 + 1, 0, none⟩ = some (.bool false) := by rw [cell_of_row _ _ _ _ _ _ hI.rs]; rfl
    have f3 : X.frozen? ⟨W.heap.size + 1 + 1 + 1, 0, none⟩ = false := by simp [World.frozen?, hI.rs]
    obtain ⟨c4, _, _⟩ := (H.out.below hBX).st.cells
    have KS := Lib.hid (sc_any x.2 X (H.out.below hBX))
    have KD := Lib.hid (fun X' (h : Below X.heap.size X X') => bnds_usual x.2 X' ((H.out.below hBX).below h).doc)
    have HI := Lib.hid hI
    have HBX := Lib.hid hBX
    clear hI hBX x0 x1 x2
    cases hf : isN ns x.2 zs with
    | true =>
      rw [hf] at KS
      have HF := Lib.hid hf
      clear hf
      gi_wp2_with (refine ⟨trivial, ?_⟩; gi_at_call 85; refine (callsIn_wide.2 KS.out).mono ?_; rintro e w' ⟨rfl, q, rfl⟩)
      have := lk_ret (x := x) (Y := X.drewN q) true HI.out (below_drewN (Below.refl _ X) q) (by rw [if_pos HF.out])
      exact ⟨this.1, rfl, this.2⟩
    | false =>
      rw [hf] at KS
      have HF := Lib.hid hf
      clear hf
      cases hb : bUs ns x.2 with
      | true =>
        rw [hb] at KD
        have HBB := Lib.hid hb
        clear hb
        gi_wp2_with (refine ⟨trivial, ?_⟩; gi_at_call 85; refine (callsIn_wide.2 KS.out).mono ?_; rintro e w' ⟨rfl, q, rfl⟩)
        gi_region_with (refine ⟨trivial, ?_⟩; gi_at_call 90; refine (callsIn_wide.2 (KD.out _ (below_drewN (Below.refl _ X) _).drew)).mono ?_; rintro e w5 ⟨rfl, hb5⟩)
        all_goals
          have hb6 : Below X.heap.size X w5 := (below_drewN (Below.refl _ X) q).drew.trans hb5
          have hRl := (Array.getElem?_eq_some_iff.1 HI.out.rs).1
          have d3 := (hb6.cell (p := ⟨W.heap.size + 1 + 1 + 1, 0, none⟩) hRl).trans c3
          have g3 := (hb6.frozen (p := ⟨W.heap.size + 1 + 1 + 1, 0, none⟩) hRl).trans f3
          have HB6 := Lib.hid hb6
          clear hb6 hb5 hRl
          gi_wp2
          have := lk_ret (x := x) (Y := w5) false HI.out HB6.out (by rw [if_neg (by rw [HF.out]; decide)]; exact ⟨HBB.out, rfl⟩)
          exact ⟨this.1, rfl, this.2⟩
      | false =>
        rw [hb] at KD
        have HBB := Lib.hid hb
        clear hb
        gi_wp2_with (refine ⟨trivial, ?_⟩; gi_at_call 85; refine (callsIn_wide.2 KS.out).mono ?_; rintro e w' ⟨rfl, q, rfl⟩)
        gi_region_with (refine ⟨trivial, ?_⟩; gi_at_call 90; refine (callsIn_wide.2 (KD.out _ (below_drewN (Below.refl _ X) _).drew)).mono ?_; rintro e w5 ⟨rfl, hb5⟩)
        all_goals
          have hb6 : Below X.heap.size X w5 := (below_drewN (Below.refl _ X) q).drew.trans hb5
          have HB6 := Lib.hid hb6
          clear hb6 hb5
          gi_wp2
          exact lk_go (x := x) HI.out HB6.out HF.out HBB.out
  case done =>
    rintro D2 ys X hD rfl hI hK
    obtain ⟨hBX, _, _, _⟩ := FAR.out X hI.fr
    have HI := Lib.hid hI
    have HBX := Lib.hid hBX
    have c3 : X.cell? ⟨W.heap.size + 1 + 1 + 1, 0, none⟩ = some (.bool false) := by rw [cell_of_row _ _ _ _ _ _ hI.rs]; rfl
    have f3 : X.frozen? ⟨W.heap.size + 1 + 1 + 1, 0, none⟩ = false := by simp [World.frozen?, hI.rs]
    clear hI hBX
    gi_wp2
    have hk2 := (KeepsOthers.setCell X ⟨W.heap.size + 1 + 1 + 1, 0, none⟩ (.bool false)).same D2 _ hK rfl
    have hRR := HR.out
    have hres : (X.setCell ⟨W.heap.size + 1 + 1 + 1, 0, none⟩ (.bool false)).heap[W.heap.size + 1 + 1 + 1]? = some (.cells #[.bool false] 4 (0, 0)) := heap_setCell_same _ _ 0 _ _ _ HI.out.rs
    have hres2 : ((X.setCell ⟨W.heap.size + 1 + 1 + 1, 0, none⟩ (.bool false)).putObj D2 (.deferred none)).heap[W.heap.size + 1 + 1 + 1]? = some (.cells #[.bool false] 4 (0, 0)) := by
      rw [World.putObj_heap_other (by omega)]; exact hres
    have hcq : ((X.setCell ⟨W.heap.size + 1 + 1 + 1, 0, none⟩ (.bool false)).putObj D2 (.deferred none)).cell? ⟨W.heap.size + 1 + 1 + 1, 0, none⟩ = some (.bool false) := by rw [cell_of_row _ _ _ _ _ _ hres2]; rfl
    refine ⟨by simp, .inl ⟨_, _, rfl, run_takeDeferred hk2, ?_⟩⟩
    have hval : lookB (fun n => isN ns n zs) (bUs ns) xs.reverse = false := by
      have := lookB_none (f := fun n => isN ns n zs) (b := bUs ns) _ HI.out.un
      rwa [rvp_snd xs xs.length (Nat.le_refl _), List.take_length] at this
    refine ⟨.bool false, ?_, by rw [hval], ?_⟩
    · simp [results, Try.f84, go_sem, hcq]
    · have hBF := HBX.out.setCell (p := ⟨W.heap.size + 1 + 1 + 1, 0, none⟩) (by show W.heap.size ≤ W.heap.size + 1 + 1 + 1; omega) (.bool false)
      exact hBF.grown (grownBy_putObj' _ D2 _) hBF.size (fun r e => by cases e; omega)
  case stop =>
    rintro D2 c pre X hD hpre ⟨rfl, hX⟩ hK
    obtain ⟨pre0, x, r, rfl, hun, hc, hfr, hrs⟩ := hX
    obtain ⟨hBX, _, _, _⟩ := FAR.out X hfr
    have hval : lookB (fun n => isN ns n zs) (bUs ns) xs.reverse = r := by
      obtain ⟨rest, hrest⟩ := hpre
      have := lookB_pre (f := fun n => isN ns n zs) (b := bUs ns) pre0 x rest r hun hc
      rw [List.append_assoc, List.singleton_append] at hrest
      rwa [hrest, rvp_snd xs xs.length (Nat.le_refl _), List.take_length] at this
    have hRR := HR.out
    have HVAL := Lib.hid hval
    have HBX := Lib.hid hBX
    have HRS := Lib.hid hrs
    clear hval hBX hrs hfr hun hc hpre
    gi_wp2
    have hres2 : (X.putObj D2 (.deferred none)).heap[W.heap.size + 1 + 1 + 1]? = some (.cells #[.bool r] 4 (0, 0)) := by
      rw [World.putObj_heap_other (by omega)]; exact HRS.out
    have hcq : (X.putObj D2 (.deferred none)).cell? ⟨W.heap.size + 1 + 1 + 1, 0, none⟩ = some (.bool r) := by rw [cell_of_row _ _ _ _ _ _ hres2]; rfl
    refine ⟨by simp, .inl ⟨_, _, rfl, run_takeDeferred hK, ?_⟩⟩
    refine ⟨.bool r, ?_, by rw [HVAL.out], ?_⟩
    · simp [results, Try.f84, go_sem, hcq]
    · exact HBX.out.grown (grownBy_putObj' _ D2 _) HBX.out.size (fun r e => by cases e; omega)
theorem scope_usual (W : World) (hd : DocM base D v qk ns W) (hst : StM T (.pointer (some ⟨D, 0, none⟩)) va xs W) (hr : RdT W A zs) (hz : zs.length ≤ 1000000) (hx : xs.length ≤ 1000000) (hpos : 0 < xs.length) :
    Calls Try.prog 66 #[.pointer (some ⟨T, 0, none⟩), .int .i64 0, .slice A zs.length cap] W fun e W' => e = .returned (.bool (lookB (fun n => isN ns n zs) (bUs ns) xs.reverse)) ∧ Below W.heap.size W W' := by
  obtain ⟨W1, hW1⟩ : ∃ W1, (W.alloc (.cells #[.pointer (some ⟨T, 0, none⟩)] 69)).alloc (.cells #[.slice A zs.length cap] 73) = W1 := ⟨_, rfl⟩
  have hb : Below W.heap.size W W1 := by rw [← hW1]; exact ((Below.refl _ W).alloc (Nat.le_refl _) _).alloc (by simp) _
  have b1 : W1.heap[W.heap.size]? = some (.cells #[.pointer (some ⟨T, 0, none⟩)] 69 (0, 0)) := by
    rw [← hW1, Below.heap_alloc _ _ _ (by simp)]
    exact heap_alloc_new W _
  have b2 : W1.heap[W.heap.size + 1]? = some (.cells #[.slice A zs.length cap] 73 (0, 0)) := by
    rw [← hW1]
    have := heap_alloc_new (W.alloc (.cells #[.pointer (some ⟨T, 0, none⟩)] 69)) (.cells #[.slice A zs.length cap] 73)
    simpa using this
  have c1 : W1.cell? ⟨W.heap.size, 0, none⟩ = some (.pointer (some ⟨T, 0, none⟩)) := by rw [cell_of_row _ _ _ _ _ _ b1]; rfl
  have KL := Lib.hid (look_usual W1 (⟨hd.below hb, hst.below hb, b1, b2, hr.below hb, hz⟩ : LkM base D T W.heap.size (W.heap.size + 1) v va qk ns xs zs A cap W1) hx hpos)
  have HB := Lib.hid hb
  obtain ⟨r, hr'⟩ : ∃ r, lookB (fun n => isN ns n zs) (bUs ns) xs.reverse = r := ⟨_, rfl⟩
  rw [hr'] at KL ⊢
  clear hd hst hr hb b1 b2 hr'
  go_enter Try.func66, Try.ntmps66
  go_wp2_with fail
  refine KL.out.mono ?_
  rintro e w2 ⟨rfl, hb2⟩
  go_wp2
  go_ret
  exact ⟨rfl, HB.out.trans (hb2.mono HB.out.size)⟩
end
end Go.Proofs.Ytfkbjniodomdjaa
