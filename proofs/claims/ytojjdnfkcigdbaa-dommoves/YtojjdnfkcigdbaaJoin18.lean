/- The document's example of layer 8. The document's example of layer 8. The tree and what the law keeps beside it, both; a step of either. A step of the laws of layer 8: Put, Out, nothing. -/
import Derived.Test.YtojjdnfkcigdbaaJoin17
import Derived.Test.YtojjdnfkcigdbaaJoin10
import Derived.Test.YtojjdnfkcigdbaaJoin12
import Derived.Test.YtojjdnfkcigdbaaIk
import Derived.Test.YtojjdnfkcigdbaaJoin15
namespace Go.Proofs.Ytojjdnfkcigdbaa
open Go.RowKit Go.Shelf Go.Lib

def s8P : ByteArray := ⟨#[112]⟩
def s8A : ByteArray := ⟨#[97]⟩
def s8B : ByteArray := ⟨#[98]⟩
/-- an element by its name -/
def elN (s : ByteArray) : Nd := ⟨2, 0, s, ⟨#[]⟩, none, [], 0, ⟨#[]⟩, ⟨#[]⟩, 0, .slice none 0 0, [], 0⟩
section
variable (A A' : Option Addr) (c c' : Nat) (v1 v2 v3 v4 : Value)
def h8L1 : List Nd := [pageNd, aloneNd (elN s8P) A c]
def h8L2 : List Nd := [{ pageNd with kv := v2, kids := [1] }, { aloneNd (elN s8P) A c with up := 0 }]
def h8L3 : List Nd := [{ pageNd with kv := v2, kids := [1] }, { aloneNd (elN s8P) A c with up := 0, kv := v4, kids := [2] }, { aloneNd (txN s8A) A' c' with up := 1 }]
def h8L4 : List Nd := [{ pageNd with kv := v2, kids := [1] }, { aloneNd (elN s8P) A c with up := 0, kv := v4, kids := [2] }, { aloneNd (txN s8A) A' c' with up := 1, data := s8A ++ s8B }]
theorem h8_put1 : putP (h8L1 A c) 0 1 (-1) v1 v2 = h8L2 A c v2 := by rfl
theorem h8_putE1 : putE (h8L1 A c) 0 1 (-1) = 0 := by rfl
theorem h8_in2 : inN (h8L2 A c v2) 1 = true := by rfl
theorem h8_plc2 : plcB (h8L2 A c v2) 1 (-1) = true := by rfl
theorem h8_say2 : sayN (h8L2 A c v2) 1 (-1) = none := by rfl
theorem h8_put2 : putP (h8L2 A c v2 ++ [aloneNd (txN s8A) A' c']) 1 2 (-1) v3 v4 = h8L3 A A' c c' v2 v4 := by rfl
theorem h8_putE2 : putE (h8L2 A c v2 ++ [aloneNd (txN s8A) A' c']) 1 2 (-1) = 0 := by rfl
theorem h8_in3 : inN (h8L3 A A' c c' v2 v4) 1 = true := by rfl
theorem h8_plc3 : plcB (h8L3 A A' c c' v2 v4) 1 (-1) = true := by rfl
theorem h8_say3 : sayN (h8L3 A A' c c' v2 v4) 1 (-1) = some 2 := by rfl
theorem h8_set3 : setD (h8L3 A A' c c' v2 v4) 2 s8B = h8L4 A A' c c' v2 v4 := by rfl
theorem h8_kd : kdN (h8L4 A A' c c' v2 v4) 1 = [2] := by rfl
theorem h8_src : kdN (h8L4 A A' c c' v2 v4) (srcN (h8L4 A A' c c' v2 v4) 1) = [2] := by rfl
theorem h8_src2 : kdN (h8L4 A A' c c' v2 v4) (srcN (h8L4 A A' c c' v2 v4) 2) = [] := by rfl
theorem h8_in4 : inN (h8L4 A A' c c' v2 v4) 2 = true := by rfl
theorem h8_kind : atN (h8L4 A A' c c' v2 v4) 2 Nd.kind 0 = 3 := by rfl
theorem h8_txts : txts (h8L4 A A' c c' v2 v4) [(2, 1)] = [97, 98] := by rfl
theorem h8_vis : Vis (h8L4 A A' c c' v2 v4) 3 [2] 1 [(2, 1)] 2 true := by
  have h := Vis.go (o := []) (h8_in4 A A' c c' v2 v4) (by rw [h8_src2]; exact Vis.nil (left := 2) (d := 2)) (Vis.nil (left := 2) (d := 1))
  simpa using h
theorem h8_no : s8A.toList ≠ [] ∧ s8B.toList ≠ [] := by constructor <;> (intro h; exact absurd h (by decide +kernel))
end
theorem say_new {ns ns' : List Nd} {up before z : Int} {s : ByteArray} (h : SayR ns up s before ns' z) (h1 : inN ns up = true) (h2 : s.toList ≠ []) (h3 : plcB ns up before = true) (h4 : sayN ns up before = none) :
    ∃ A c v1 v2, ns' = putP (ns ++ [aloneNd (txN s) A c]) up ns.length before v1 v2 ∧ z = putE (ns ++ [aloneNd (txN s) A c]) up ns.length before := by
  cases h with
  | arg h => rcases h with h | h
             · rw [h1] at h; cases h
             · exact absurd h h2
  | miss _ _ h => rw [h3] at h; cases h
  | grow l _ _ _ h => rw [h4] at h; cases h
  | new A c v1 v2 => exact ⟨A, c, v1, v2, rfl, rfl⟩
theorem say_grow {ns ns' : List Nd} {up before z : Int} {s : ByteArray} {l : Nat} (h : SayR ns up s before ns' z) (h1 : inN ns up = true) (h2 : s.toList ≠ []) (h3 : plcB ns up before = true) (h4 : sayN ns up before = some l) :
    ns' = setD ns l s ∧ z = 0 := by
  cases h with
  | arg h => rcases h with h | h
             · rw [h1] at h; cases h
             · exact absurd h h2
  | miss _ _ h => rw [h3] at h; cases h
  | grow l' _ _ _ h => rw [h4] at h; cases h; exact ⟨rfl, rfl⟩
  | new A c v1 v2 _ _ _ h => rw [h4] at h; cases h
end Go.Proofs.Ytojjdnfkcigdbaa
namespace Go.Proofs.Ytojjdnfkcigdbaa
open Go.RowKit Go.Shelf Go.Lib
attribute [local go_sem] Oper.semAt_some

theorem Adds.bw {base D : Nat} {v : Value} {qk : Bool} {ns ns' : List Nd} {W W' : World} (h : Adds base D v qk ns ns' W W') (hd : DocM base D v qk ns W) (hb : base ≤ W.heap.size) : Below base W W' := by
  obtain ⟨_, _, hf, _⟩ := h
  exact hf.toBelow hb (fun k e => (hd.in_ k e).1)
set_option maxRecDepth 100000 in
set_option maxHeartbeats 2000000 in
theorem head8_any (W : World) : Calls Try.prog 10 #[] W fun e W' => e = .returned (.bool true) ∧ Below W.heap.size W W' := by
  have KN := Lib.hid (New_any W)
  go_enter Try.func10, Try.ntmps10
  go_wp2_with fail
  refine KN.out.mono ?_
  rintro e W1 ⟨D, v, rfl, hd, hb1⟩
  have hbs := hb1.size
  have KA := add_plain (elN s8P) hd hbs (by kernel_rfl) (by simp) (.inl rfl) (fun _ => rfl) (by decide)
  have HB1 := Lib.hid hb1
  have HD1 := Lib.hid hd
  replace KA := Lib.hid KA
  clear hd hb1 KN
  go_wp2_with fail
  refine KA.out.mono ?_
  rintro e W2 ⟨rfl, A, c, ha⟩
  have hb2 := HB1.out.trans (ha.bw HD1.out hbs)
  obtain ⟨v2, hd2, _, _⟩ := ha
  replace hd2 : DocM W.heap.size D v2 false (h8L1 A c) W2 := hd2
  have KP := put_any 0 1 (-1) W2 hd2 (by simp [h8L1]) (fun x hx => by
    simp only [h8L1, List.mem_cons, List.not_mem_nil, or_false] at hx
    rcases hx with rfl | rfl <;> exact (by decide : (0 : Nat) < 1000000))
  unfold PutPost at KP
  simp only [h8_put1, h8_putE1] at KP
  replace KP := Lib.hid KP
  have HB2 := Lib.hid hb2
  have HD2 := Lib.hid hd2
  have hbs2 := hb2.size
  clear hd2 hb2 KA HB1 HD1
  go_wp2_with fail
  refine KP.out.mono ?_
  rintro e W3 ⟨va, vb, rfl, ha⟩
  have hb3 := HB2.out.trans (ha.adds.bw HD2.out hbs2)
  obtain ⟨hd3, _, _⟩ := ha
  have KS := say_any 1 s8A (-1) W3 hd3 (by simp [h8L2]) (fun x hx => by
    simp only [h8L2, List.mem_cons, List.not_mem_nil, or_false] at hx
    rcases hx with rfl | rfl <;> first | exact (by decide : (0 : Nat) < 1000000) | exact (by decide : (1 : Nat) < 1000000)) (fun x hx => by
    simp only [h8L2, List.mem_cons, List.not_mem_nil, or_false] at hx
    rcases hx with rfl | rfl <;> (simp only [pageNd, aloneNd, elN, s8A]; decide))
  replace KS := Lib.hid KS
  have HB3 := Lib.hid hb3
  have HD3 := Lib.hid hd3
  have hbs3 := hb3.size
  clear hd3 hb3 KP HB2 HD2
  go_wp2_with fail
  refine KS.out.mono ?_
  rintro e W4 ⟨ns4, z, hr, rfl, ha⟩
  have hb4 := HB3.out.trans (ha.bw HD3.out hbs3)
  obtain ⟨A', c', v3, v4, e1, e2⟩ := say_new hr (h8_in2 _ _ _) h8_no.1 (h8_plc2 _ _ _) (h8_say2 _ _ _)
  replace e1 := e1.trans (h8_put2 A A' c c' vb v3 v4)
  replace e2 := e2.trans (h8_putE2 A A' c c' vb)
  subst e1 e2
  obtain ⟨v5, hd4, _, _⟩ := ha
  have KT := say_any 1 s8B (-1) W4 hd4 (by simp [h8L3]) (fun x hx => by
    simp only [h8L3, List.mem_cons, List.not_mem_nil, or_false] at hx
    rcases hx with rfl | rfl | rfl <;> first | exact (by decide : (0 : Nat) < 1000000) | exact (by decide : (1 : Nat) < 1000000)) (fun x hx => by
    simp only [h8L3, List.mem_cons, List.not_mem_nil, or_false] at hx
    rcases hx with rfl | rfl | rfl <;> (simp only [pageNd, aloneNd, elN, txN, s8A, s8B]; decide))
  replace KT := Lib.hid KT
  have HB4 := Lib.hid hb4
  have HD4 := Lib.hid hd4
  have hbs4 := hb4.size
  clear hd4 hb4 hr KS HB3 HD3
  go_wp2_with fail
  refine KT.out.mono ?_
  rintro e W5 ⟨ns5, z, hr, rfl, ha⟩
  have hb5 := HB4.out.trans (ha.bw HD4.out hbs4)
  obtain ⟨e1, e2⟩ := say_grow hr (h8_in3 _ _ _ _ _ _) h8_no.2 (h8_plc3 _ _ _ _ _ _) (h8_say3 _ _ _ _ _ _)
  replace e1 := e1.trans (h8_set3 A A' c c' vb v4)
  subst e1 e2
  obtain ⟨v6, hd5, _, _⟩ := ha
  have KK := Kids_any 1 W5 hd5 (by rw [h8_kd]; simp)
  rw [h8_kd] at KK
  replace KK := Lib.hid KK
  have HB5 := Lib.hid hb5
  have HD5 := Lib.hid hd5
  have hbs5 := hb5.size
  clear hd5 hb5 hr KT HB4 HD4
  go_wp2_with fail
  refine KK.out.mono ?_
  rintro e W6 ⟨v7, rfl, ho, hb6⟩
  have hd6 := HD5.out.below hb6
  have hb6' := HB5.out.trans (hb6.mono hbs5)
  obtain ⟨g7, c7, e7, hc7⟩ : ∃ g c, v7 = .slice (some ⟨g, 0, none⟩) 1 c ∧ W6.cell? ⟨g, 0, none⟩ = some (.int .i64 2) := by
    rcases ho.2 with ⟨_, h0⟩ | ⟨g, cap, cur, e, _⟩
    · cases h0
    · subst e
      exact ⟨g, cap, rfl, ho.cellAt 0 (by decide)⟩
  subst e7
  have KI := Lib.hid (kind_any 2 W6 hd6)
  rw [h8_kind] at KI
  have KW := words_any 1 W6 hd6 (by simp [h8L4]) (fun x hx => by
    simp only [h8L4, List.mem_cons, List.not_mem_nil, or_false] at hx
    rcases hx with rfl | rfl | rfl <;> (simp only [pageNd, aloneNd, elN, s8A, s8B]; decide)) [(2, 1)] 2 true (by rw [h8_src]; exact h8_vis _ _ _ _ _ _)
  rw [h8_txts] at KW
  replace KW := Lib.hid KW
  have HB6 := Lib.hid hb6'
  have hbs6 := hb6'.size
  clear hb6 hb6' hd6 KK HB5 HD5
  clear ho
  go_wp2_with fail
  refine KI.out.mono ?_
  rintro e w7 ⟨rfl, rfl⟩
  go_wp2_with fail
  refine KW.out.mono ?_
  rintro e W8 ⟨rfl, hb8⟩
  go_wp2
  go_ret
  exact ⟨rfl, HB6.out.trans (hb8.mono hbs6)⟩
end Go.Proofs.Ytojjdnfkcigdbaa
namespace Go.Proofs.Ytojjdnfkcigdbaa
open Go.RowKit Go.Shelf Go.Lib

/-- what no call turns: a node's space, its attributes, its ids -/
def Nd.rst (x : Nd) : Int × List Atr × ByteArray × ByteArray := (x.space, x.attrs, x.pub, x.sys)
def rst0 : Int × List Atr × ByteArray × ByteArray := (0, [], ⟨#[]⟩, ⟨#[]⟩)
theorem setK_rst (ns : List Nd) (i : Nat) (v : Value) (ks : List Int) : (setK ns i v ks).map Nd.rst = ns.map Nd.rst := by
  unfold setK
  cases hx : ns[i]? with
  | none => rfl
  | some x =>
    simp only [List.map_set]
    obtain ⟨hl, e⟩ := List.getElem?_eq_some_iff.1 hx
    have : Nd.rst { x with kv := v, kids := ks } = (ns.map Nd.rst)[i]'(by simpa using hl) := by rw [List.getElem_map, e]; rfl
    rw [this, List.set_getElem_self]
theorem setU_rst (ns : List Nd) (i : Nat) (u : Int) : (setU ns i u).map Nd.rst = ns.map Nd.rst := by
  unfold setU
  cases hx : ns[i]? with
  | none => rfl
  | some x =>
    simp only [List.map_set]
    obtain ⟨hl, e⟩ := List.getElem?_eq_some_iff.1 hx
    have : Nd.rst { x with up := u } = (ns.map Nd.rst)[i]'(by simpa using hl) := by rw [List.getElem_map, e]; rfl
    rw [this, List.set_getElem_self]
theorem setD_rst (ns : List Nd) (i : Nat) (s : ByteArray) : (setD ns i s).map Nd.rst = ns.map Nd.rst := by
  unfold setD
  cases hx : ns[i]? with
  | none => rfl
  | some x =>
    simp only [List.map_set]
    obtain ⟨hl, e⟩ := List.getElem?_eq_some_iff.1 hx
    have : Nd.rst { x with data := x.data ++ s } = (ns.map Nd.rst)[i]'(by simpa using hl) := by rw [List.getElem_map, e]; rfl
    rw [this, List.set_getElem_self]
theorem outP_rst (ns : List Nd) (n : Int) (v : Value) : (outP ns n v).map Nd.rst = ns.map Nd.rst := by
  unfold outP
  split
  · rw [setU_rst]
    split
    · rw [setK_rst]
    · rfl
  · rfl
theorem putP_rst (ns : List Nd) (up n before : Int) (v1 v2 : Value) : (putP ns up n before v1 v2).map Nd.rst = ns.map Nd.rst := by
  unfold putP
  split
  · rw [setU_rst, setK_rst, outP_rst]
  · rfl
theorem mv_rst {up : Int} {K : List Int} {ns ns' : List Nd} {z : Int} (h : MvR up K ns ns' z) : ns'.map Nd.rst = ns.map Nd.rst := by
  induction h with
  | nil => rfl
  | bad v1 v2 _ => exact putP_rst _ _ _ _ _ _
  | go v1 v2 _ _ ih => rw [ih, putP_rst]
/-- texts' sizes -/
theorem md_dat {ps : List Pl} {i : Nat} {f : Pl → Pl} {B : Nat} (h : ∀ x ∈ ps, x.data.size ≤ B) (hf : ∀ x ∈ ps, (f x).data.size ≤ B) : ∀ x ∈ md ps i f, x.data.size ≤ B := by
  intro x hx
  unfold md at hx
  cases hi : ps[i]? with
  | none => rw [hi] at hx; exact h x hx
  | some y =>
    rw [hi] at hx
    rcases List.mem_or_eq_of_mem_set hx with hx | rfl
    · exact h x hx
    · exact hf y (List.mem_of_getElem? hi)
theorem out_dat {ps : List Pl} {n : Int} {B : Nat} (h : ∀ x ∈ ps, x.data.size ≤ B) : ∀ x ∈ outQ ps n, x.data.size ≤ B := by
  unfold outQ
  split
  · exact h
  · have h1 := md_dat (i := (pAt ps n Pl.up (-1)).toNat) (f := fun y => { y with kids := y.kids.erase n }) h (fun x hx => h x hx)
    exact md_dat h1 (fun x hx => h1 x hx)
theorem put_dat {ps : List Pl} {up n before : Int} {B : Nat} (h : ∀ x ∈ ps, x.data.size ≤ B) : ∀ x ∈ putQ ps up n before, x.data.size ≤ B := by
  unfold putQ
  split
  · have h0 := out_dat (n := n) h
    unfold attQ
    have h1 := md_dat (i := up.toNat) (f := fun y => { y with kids := insL y.kids (plQ (outQ ps n) up before).toNat n.toNat }) h0 (fun x hx => h0 x hx)
    exact md_dat h1 (fun x hx => h1 x hx)
  · exact h
theorem mv_dat {up : Int} {B : Nat} : ∀ (ks : List Int) {ps : List Pl}, (∀ x ∈ ps, x.data.size ≤ B) → ∀ x ∈ (mvQ up ks ps).1, x.data.size ≤ B
  | [], _, h => h
  | k :: ks, ps, h => by
    unfold mvQ
    split
    · exact mv_dat ks (put_dat h)
    · exact h
theorem mvQ_len {up : Int} : ∀ (ks : List Int) (ps : List Pl), (mvQ up ks ps).1.length = ps.length
  | [], _ => rfl
  | k :: ks, ps => by
    unfold mvQ
    split
    · rw [mvQ_len ks, putQ_len]
    · rfl

/-- the tree and the law's own list, the same behind so many steps -/
structure St (w1 : World) (D : Nat) (v : Value) (ns : List Nd) (va : Value) (os : List Ow) (m : Nat) (W : World) : Prop where
  doc : DocM w1.heap.size D v false ns W
  own : OwM w1.heap.size va os W
  eq : ns.map Nd.pl = os.map Ow.pl
  dis : ∀ k, DB D v ns k → ¬ OB va os k
  tr : Tr (os.map Ow.pl)
  bw : Below w1.heap.size w1 W
  len : os.length ≤ 1 + 2 * m
  pos : 0 < os.length
  dat : ∀ x ∈ os.map Ow.pl, x.data.size ≤ 50 * m
  rst : ∀ r ∈ ns.map Nd.rst, r = rst0
section
variable {w1 : World} {D : Nat} {v v' va va' : Value} {ns ns' : List Nd} {os os' : List Ow} {m : Nat} {W W' W'' : World}
theorem St.len2 (h : St w1 D v ns va os m W) : ns.length = os.length := by
  have := congrArg List.length h.eq
  simpa using this
theorem St.kids (h : St w1 D v ns va os m W) : ∀ x ∈ ns, x.kids.length ≤ os.length := by
  intro x hx
  obtain ⟨i, hi⟩ := List.mem_iff_getElem?.1 hx
  have := h.tr.kids_le (i := i) (x := x.pl) (by rw [← h.eq, List.getElem?_map, hi]; rfl)
  rw [List.length_map] at this
  exact this
theorem St.data (h : St w1 D v ns va os m W) : ∀ x ∈ ns, x.data.size ≤ 50 * m := by
  intro x hx
  exact h.dat x.pl (by rw [← h.eq]; exact List.mem_map_of_mem hx)
theorem St.keep {S : Nat → Prop} (h : St w1 D v ns va os m W) (hf : Frm S W W') (hS : ∀ k, S k → w1.heap.size ≤ k ∧ ¬ DB D v ns k ∧ ¬ OB va os k) : St w1 D v ns va os m W' :=
  ⟨h.doc.keep hf (fun k hk e => (hS k e).2.1 hk), h.own.keep hf (fun k hk e => (hS k e).2.2 hk), h.eq, h.dis, h.tr, h.bw.trans (hf.toBelow h.bw.size (fun k e => (hS k e).1)), h.len, h.pos, h.dat, h.rst⟩
theorem St.below (h : St w1 D v ns va os m W) (hb : Below W.heap.size W W') : St w1 D v ns va os m W' := h.keep (S := fun _ => False) (Frm.below hb) (fun _ e => e.elim)
theorem St.more (h : St w1 D v ns va os m W) : St w1 D v ns va os (m + 1) W :=
  ⟨h.doc, h.own, h.eq, h.dis, h.tr, h.bw, by have := h.len; omega, h.pos, fun x hx => by have := h.dat x hx; omega, h.rst⟩
/-- behind a call of the tree, ahead of the law's -/
theorem St.mid (h : St w1 D v ns va os m W) (ha : Adds w1.heap.size D v false ns ns' W W') : ∃ v', DocM w1.heap.size D v' false ns' W' ∧ OwM w1.heap.size va os W' ∧ (∀ k, DB D v' ns' k → ¬ OB va os k) ∧ Below w1.heap.size w1 W' := by
  obtain ⟨v', hd, hf, hn⟩ := ha
  refine ⟨v', hd, h.own.keep hf (fun k hk e => h.dis k e hk), fun k hk e => ?_, h.bw.trans (hf.toBelow h.bw.size (fun k e => (h.doc.in_ k e).1))⟩
  rcases hn k hk with h1 | h1
  · exact h.dis k h1 e
  · have := (h.own.in_ k e).2
    omega
/-- behind both -/
theorem st_fin (hd : DocM w1.heap.size D v' false ns' W') (hdis : ∀ k, DB D v' ns' k → ¬ OB va os k) (hbw : Below w1.heap.size w1 W') (hb : ∀ k, va.ownBlock = some k → w1.heap.size ≤ k)
    (ho : OwM w1.heap.size va' os' W'') (hf : Frm (fun k => va.ownBlock = some k) W' W'') (hn : ∀ k, OB va' os' k → OB va os k ∨ W'.heap.size ≤ k)
    (he : ns'.map Nd.pl = os'.map Ow.pl) (ht : Tr (os'.map Ow.pl)) (hl : os'.length ≤ 1 + 2 * m) (hp : 0 < os'.length) (hdat : ∀ x ∈ os'.map Ow.pl, x.data.size ≤ 50 * m) (hr : ∀ r ∈ ns'.map Nd.rst, r = rst0) :
    St w1 D v' ns' va' os' m W'' := by
  refine ⟨hd.keep hf (fun k hk e => hdis k hk (.inl e)), ho, he, fun k hk e => ?_, ht, hbw.trans (hf.toBelow hbw.size (fun k e => hb k e)), hl, hp, hdat, hr⟩
  rcases hn k e with h | h
  · exact hdis k hk h
  · have := (hd.in_ k hk).2
    omega
theorem St.rg (h : St w1 D v ns va os m W) : ∀ k, va.ownBlock = some k → w1.heap.size ≤ k := fun k e => (h.own.in_ k (.inl e)).1
end
def tab (F : Nat → Value) : Nat → Nat → List Value
  | 0, _ => []
  | n + 1, k => F k :: tab F n (k + 1)
theorem tab_len (F : Nat → Value) : ∀ n k, (tab F n k).length = n
  | 0, _ => rfl
  | n + 1, k => by simp [tab, tab_len F n (k + 1)]
theorem tab_at (F : Nat → Value) : ∀ n k i, i < n → (tab F n k)[i]? = some (F (k + i))
  | 0, _, _, h => by omega
  | n + 1, k, 0, _ => rfl
  | n + 1, k, i + 1, h => by
    have := tab_at F n (k + 1) i (by omega)
    simp only [tab, List.getElem?_cons_succ, this]
    congr 2
    omega
def subC : List Nat → Code → Code
  | [], c => c
  | 0 :: l, .seq a _ => subC l a
  | 1 :: l, .seq _ b => subC l b
  | 2 :: l, .block _ b => subC l b
  | 2 :: l, .loop b => subC l b
  | 3 :: l, .cond _ a _ => subC l a
  | 4 :: l, .cond _ _ b => subC l b
  | _, c => c
/-- the round's block, and the switch in it -/
noncomputable def plB : Code := subC [1, 1, 1, 0, 1, 2, 2, 1, 0, 2] (Try.f11.body.getD .skip)
noncomputable def plS : Code := subC [1, 1, 1, 1, 1, 1, 1, 1] plB
set_option maxRecDepth 100000 in
def frm277 (F : Nat → Value) : Array Value :=
  #[F 0, F 1, F 2, F 3, F 4, F 5, F 6, F 7, F 8, F 9, F 10, F 11, F 12, F 13, F 14, F 15, F 16, F 17, F 18, F 19, F 20, F 21, F 22, F 23, F 24, F 25, F 26, F 27, F 28, F 29, F 30, F 31, F 32, F 33, F 34, F 35, F 36, F 37, F 38, F 39, F 40, F 41, F 42, F 43, F 44, F 45, F 46, F 47, F 48, F 49, F 50, F 51, F 52, F 53, F 54, F 55, F 56, F 57, F 58, F 59, F 60, F 61, F 62, F 63, F 64, F 65, F 66, F 67, F 68, F 69, F 70, F 71, F 72, F 73, F 74, F 75, F 76, F 77, F 78, F 79, F 80, F 81, F 82, F 83, F 84, F 85, F 86, F 87, F 88, F 89, F 90, F 91, F 92, F 93, F 94, F 95, F 96, F 97, F 98, F 99, F 100, F 101, F 102, F 103, F 104, F 105, F 106, F 107, F 108, F 109, F 110, F 111, F 112, F 113, F 114, F 115, F 116, F 117, F 118, F 119, F 120, F 121, F 122, F 123, F 124, F 125, F 126, F 127, F 128, F 129, F 130, F 131, F 132, F 133, F 134, F 135, F 136, F 137, F 138, F 139, F 140, F 141, F 142, F 143, F 144, F 145, F 146, F 147, F 148, F 149, F 150, F 151, F 152, F 153, F 154, F 155, F 156, F 157, F 158, F 159, F 160, F 161, F 162, F 163, F 164, F 165, F 166, F 167, F 168, F 169, F 170, F 171, F 172, F 173, F 174, F 175, F 176, F 177, F 178, F 179, F 180, F 181, F 182, F 183, F 184, F 185, F 186, F 187, F 188, F 189, F 190, F 191, F 192, F 193, F 194, F 195, F 196, F 197, F 198, F 199, F 200, F 201, F 202, F 203, F 204, F 205, F 206, F 207, F 208, F 209, F 210, F 211, F 212, F 213, F 214, F 215, F 216, F 217, F 218, F 219, F 220, F 221, F 222, F 223, F 224, F 225, F 226, F 227, F 228, F 229, F 230, F 231, F 232, F 233, F 234, F 235, F 236, F 237, F 238, F 239, F 240, F 241, F 242, F 243, F 244, F 245, F 246, F 247, F 248, F 249, F 250, F 251, F 252, F 253, F 254, F 255, F 256, F 257, F 258, F 259, F 260, F 261, F 262, F 263, F 264, F 265, F 266, F 267, F 268, F 269, F 270, F 271, F 272, F 273, F 274, F 275, F 276]
set_option maxRecDepth 100000 in
theorem frm277_tab (F : Nat → Value) : (tab F 277 0).toArray = frm277 F := by
  unfold frm277
  kernel_rfl
theorem frm277_of {t : Array Value} (hs : t.size = 277) : t = frm277 (fun k => t.getD k undef) := by
  rw [← frm277_tab]
  apply Array.ext'
  apply List.ext_getElem?
  intro i
  by_cases hi : i < 277
  · rw [List.toList_toArray, tab_at _ _ _ _ hi, Nat.zero_add]
    have : i < t.size := by omega
    simp [this]
  · rw [List.getElem?_eq_none (by simp; omega), List.getElem?_eq_none (by simp [tab_len]; omega)]
structure OpD where
  k : Int
  a : Int
  b : Int
  c : Int
  n : Int
  s : ByteArray
def OpD.cs (o : OpD) : Array Value := #[.int .i64 o.k, .int .i64 o.a, .int .i64 o.b, .int .i64 o.c, .int .i64 o.n, .string o.s]
/-- ahead of the switch -/
structure HS (w1 : World) (D : Nat) (v : Value) (ns : List Nd) (va : Value) (os : List Ow) (m : Nat) (F : Nat → Value) (ob : Nat) (o : OpD) (a b c : Int) (W : World) : Prop where
  st : St w1 D v ns va os m W
  e5 : F 5 = .pointer (some ⟨D, 0, none⟩)
  e6 : F 6 = va
  e8 : F 8 = .pointer (some ⟨ob, 0, none⟩)
  e10 : F 10 = .int .i64 a
  e11 : F 11 = .int .i64 b
  e12 : F 12 = .int .i64 c
  e65 : F 65 = .int .i64 o.k
  hob : W.heap[ob]? = some (.cells o.cs 79 (0, 0))
  obw : w1.heap.size ≤ ob
  obd : ¬ DB D v ns ob
  obo : ¬ OB va os ob
  ha : 0 ≤ a
  hb : 0 ≤ b
  hc : -1 ≤ c ∧ c < os.length
  hs : o.s.size ≤ 50
  hm : m < 60
/-- behind the switch -/
def PSw (w1 : World) (D : Nat) (m : Nat) (F : Nat → Value) (t : Array Value) (W : World) : Prop :=
  t.size = 277 ∧ t.getD 0 undef = F 0 ∧ t.getD 5 undef = .pointer (some ⟨D, 0, none⟩) ∧ t.getD 7 undef = F 7 ∧ ∃ v ns os, St w1 D v ns (t.getD 6 undef) os (m + 1) W
end Go.Proofs.Ytojjdnfkcigdbaa
namespace Go.Proofs.Ytojjdnfkcigdbaa
open Go.RowKit Go.Shelf Go.Lib

set_option maxRecDepth 100000 in
set_option maxHeartbeats 2000000 in
theorem sw_no (Q : Exit → Act → World → Prop) (w1 W : World) (D : Nat) (v va : Value) (ns : List Nd) (os : List Ow) (m : Nat) (F : Nat → Value) (ob : Nat) (o : OpD) (a b c : Int) (h : HS w1 D v ns va os m F ob o a b c W) (hk : o.k < 0 ∨ 4 < o.k)
    (hQ : ∀ t W', PSw w1 D m F t W' → Q .normal ⟨t, []⟩ W') : Code.wp Try.prog plS Q ⟨frm277 F, []⟩ W := by
  obtain ⟨st, e5, e6, e8, e10, e11, e12, e65, hob, _, _, _, _, _, _, _, _⟩ := h
  have k0 : (o.k == 0) = false := by rw [beq_eq_false_iff_ne]; omega
  have k1 : (o.k == 1) = false := by rw [beq_eq_false_iff_ne]; omega
  have k2 : (o.k == 2) = false := by rw [beq_eq_false_iff_ne]; omega
  have k3 : (o.k == 3) = false := by rw [beq_eq_false_iff_ne]; omega
  have k4 : (o.k == 4) = false := by rw [beq_eq_false_iff_ne]; omega
  have HQ := Lib.hid hQ
  have HST := Lib.hid st.more
  have E5 := Lib.hid e5
  have E6 := Lib.hid e6
  clear hQ st hob hk
  unfold frm277
  rw [e5, e6, e8, e10, e11, e12, e65]
  clear e5 e6 e8 e10 e11 e12 e65
  conv => arg 2; whnf
  go_wp2
  exact HQ.out _ _ ⟨rfl, rfl, rfl, rfl, v, ns, os, HST.out⟩
set_option maxRecDepth 100000 in
set_option maxHeartbeats 2000000 in
theorem sw_1 (Q : Exit → Act → World → Prop) (w1 W : World) (D : Nat) (v va : Value) (ns : List Nd) (os : List Ow) (m : Nat) (F : Nat → Value) (ob : Nat) (o : OpD) (a b c : Int) (h : HS w1 D v ns va os m F ob o a b c W) (hk : o.k = 1)
    (hQ : ∀ t W', PSw w1 D m F t W' → Q .normal ⟨t, []⟩ W') : Code.wp Try.prog plS Q ⟨frm277 F, []⟩ W := by
  obtain ⟨st, e5, e6, e8, e10, e11, e12, e65, hob, _, _, _, _, _, _, _, hm⟩ := h
  rw [hk] at e65
  have hl2 := st.len2
  have hle := st.len
  have hkd := st.kids
  have KP := Lib.hid (put_any a b c W st.doc (by omega) (fun x hx => by have := hkd x hx; omega))
  have hE : putE ns a b c = putEQ (os.map Ow.pl) a b c := by rw [← st.eq]; exact putE_pl (by rw [st.eq]; exact st.tr) (by omega) a b c
  have hP : ∀ v1 v2, (putP ns a b c v1 v2).map Nd.pl = putQ (os.map Ow.pl) a b c := fun v1 v2 => by rw [← st.eq]; exact putP_pl (by rw [st.eq]; exact st.tr) (by omega) a b c v1 v2
  unfold PutPost at KP
  rw [hE] at KP
  obtain ⟨z, hz⟩ : ∃ z, putEQ (os.map Ow.pl) a b c = z := ⟨_, rfl⟩
  rw [hz] at KP
  have dz : (z != z) = false := by simp
  have HZ := Lib.hid hz
  have HP := Lib.hid hP
  have HQ := Lib.hid hQ
  have HST := Lib.hid st
  clear hQ st hob hk hl2 hkd hE hP hz
  unfold frm277
  rw [e5, e6, e8, e10, e11, e12, e65]
  clear e5 e6 e8 e10 e11 e12 e65
  conv => arg 2; whnf
  go_wp2_with fail
  refine KP.out.mono ?_
  rintro e W2 ⟨v1, v2, rfl, hT⟩
  obtain ⟨v', hd, hown, hdis, hbw⟩ := HST.out.mid hT.adds
  have KL := lput_any a b c W2 hown HST.out.tr hbw.size (by omega)
  unfold LPut at KL
  rw [HZ.out] at KL
  replace KL := Lib.hid KL
  have HD := Lib.hid hd
  have HDIS := Lib.hid hdis
  have HBW := Lib.hid hbw
  clear hT hd hown hdis hbw
  go_wp2_with fail
  refine KL.out.mono ?_
  rintro e W3 ⟨os', rfl, hp, ho, hf, hn⟩
  have hlen : os'.length = os.length := by rw [ow_len hp, putQ_len, List.length_map]
  have hst := HST.out
  have HFIN := Lib.hid (st_fin HD.out HDIS.out HBW.out hst.rg ho hf hn (by rw [HP.out, hp]) (by rw [hp]; exact putQ_tr hst.tr _ _ _) (m := m + 1) (by rw [hlen]; omega) (by rw [hlen]; exact hst.pos) (by rw [hp]; exact put_dat (fun x hx => by have := hst.dat x hx; omega)) (by rw [putP_rst]; exact hst.rst))
  clear hp ho hf hn hst hlen
  go_wp2
  exact HQ.out _ _ ⟨rfl, rfl, rfl, rfl, v', _, os', HFIN.out⟩
set_option maxRecDepth 100000 in
set_option maxHeartbeats 2000000 in
theorem sw_2 (Q : Exit → Act → World → Prop) (w1 W : World) (D : Nat) (v va : Value) (ns : List Nd) (os : List Ow) (m : Nat) (F : Nat → Value) (ob : Nat) (o : OpD) (a b c : Int) (h : HS w1 D v ns va os m F ob o a b c W) (hk : o.k = 2)
    (hQ : ∀ t W', PSw w1 D m F t W' → Q .normal ⟨t, []⟩ W') : Code.wp Try.prog plS Q ⟨frm277 F, []⟩ W := by
  obtain ⟨st, e5, e6, e8, e10, e11, e12, e65, hob, _, _, _, ha, _, _, _, hm⟩ := h
  rw [hk] at e65
  have hl2 := st.len2
  have hle := st.len
  obtain ⟨Av, cv, hv, _⟩ := st.own.sl
  rw [hv] at e6
  have KO := Lib.hid (out_any a W st.doc)
  have HQ := Lib.hid hQ
  have HST := Lib.hid st
  have HV := Lib.hid hv
  by_cases hin : a < os.length
  · have d1 : decide (a < (os.length : Int)) = true := decide_eq_true hin
    obtain ⟨i, rfl⟩ : ∃ i : Nat, a = i := ⟨a.toNat, by omega⟩
    have hil : i < os.length := by omega
    obtain ⟨x, hx⟩ : ∃ x, os[i]? = some x := ⟨_, List.getElem?_eq_getElem (by omega)⟩
    have hP : ∀ v1, (outP ns i v1).map Nd.pl = outQ (os.map Ow.pl) i := fun v1 => by rw [← st.eq]; exact outP_pl (by rw [st.eq]; exact st.tr) v1 (by unfold inN; rw [decide_eq_true (by omega), decide_eq_true (by omega)]; rfl)
    have HP := Lib.hid hP
    have HX := Lib.hid hx
    clear hQ st hob hk hl2 hP hx hv hin
    unfold frm277
    rw [e5, e6, e8, e10, e11, e12, e65]
    clear e5 e6 e8 e10 e11 e12 e65
    conv => arg 2; whnf
    go_wp2_with fail
    refine KO.out.mono ?_
    rintro e W2 ⟨rfl, v1, hT⟩
    obtain ⟨v', hd, hown, hdis, hbw⟩ := HST.out.mid hT.adds
    have KL := lout_any i x W2 hown HST.out.tr HX.out (by omega)
    rw [HV.out] at KL
    replace KL := Lib.hid KL
    have HD := Lib.hid hd
    have HDIS := Lib.hid hdis
    have HBW := Lib.hid hbw
    clear hT hd hown hdis hbw
    go_wp2_with fail
    refine KL.out.mono ?_
    rintro e W3 ⟨rfl, os', hp, ho, hf, hn⟩
    have hlen : os'.length = os.length := by rw [ow_len hp, outQ_len, List.length_map]
    have hst := HST.out
    have hx' : (os.map Ow.pl)[i]? = some x.pl := by rw [List.getElem?_map, HX.out]; rfl
    rw [← HV.out] at ho hf hn
    have HFIN := Lib.hid (st_fin HD.out HDIS.out HBW.out hst.rg ho hf hn (by rw [HP.out, hp]) (by rw [hp]; exact outQ_tr hst.tr hx') (m := m + 1) (by rw [hlen]; omega) (by rw [hlen]; exact hst.pos) (by rw [hp]; exact out_dat (fun x hx => by have := hst.dat x hx; omega)) (by rw [outP_rst]; exact hst.rst))
    rw [HV.out] at HFIN
    clear hp ho hf hn hst hlen hx'
    go_wp2
    exact HQ.out _ _ ⟨rfl, rfl, rfl, rfl, v', _, os', HFIN.out⟩
  · have d1 : decide (a < (os.length : Int)) = false := decide_eq_false hin
    have hP : ∀ v1, outP ns a v1 = ns := fun v1 => by unfold outP; rw [if_neg]; unfold inN; rw [decide_eq_false (p := a < (ns.length : Int)) (by omega)]; simp
    have HP := Lib.hid hP
    clear hQ st hob hk hl2 hP hv hin
    unfold frm277
    rw [e5, e6, e8, e10, e11, e12, e65]
    clear e5 e6 e8 e10 e11 e12 e65
    conv => arg 2; whnf
    go_wp2_with fail
    refine KO.out.mono ?_
    rintro e W2 ⟨rfl, v1, hT⟩
    rw [HP.out] at hT
    obtain ⟨v', hd, hown, hdis, hbw⟩ := HST.out.mid hT.adds
    have hst := HST.out
    have HFIN := Lib.hid (St.more ⟨hd, hown, hst.eq, hdis, hst.tr, hbw, hst.len, hst.pos, hst.dat, hst.rst⟩)
    rw [HV.out] at HFIN
    clear hT hd hown hdis hbw hst
    go_wp2
    exact HQ.out _ _ ⟨rfl, rfl, rfl, rfl, v', _, os, HFIN.out⟩
end Go.Proofs.Ytojjdnfkcigdbaa
