/- The tree and what the law keeps beside it, both; a step of either. A step of the laws of layer 8: Put, Out, nothing. A step of the laws of layer 8: Move. -/
import Derived.Test.YtodlcfhkiilpgaaZI
import Derived.Test.YtodlcfhkiilpgaaZH
import Derived.Test.YtodlcfhkiilpgaaZF
namespace Go.Proofs.Ytodlcfhkiilpgaa
open Go.RowKit Go.Shelf Go.Lib

/-- what no call turns: a node's space, its attributes, its ids -/
def Nd.rst (x : Nd) : Int × List Atr × ByteArray × ByteArray := (x.space, x.attrs, x.pub, x.sys)
def rst0 : Int × List Atr × ByteArray × ByteArray := (0, [], ⟨#[]⟩, ⟨#[]⟩)
theorem setK_rst (ns : List Nd) (i : Nat) (v : Value) (ks : List Int) : (setK ns i v ks).map Nd.rst = ns.map Nd.rst := by
  unfold setK
  cases hx : ns[i]? with
  | none => rfl
  | some x =>
    simp only [List.map_set]
    obtain ⟨hl, e⟩ := List.getElem?_eq_some_iff.1 hx
    have : Nd.rst { x with kv := v, kids := ks } = (ns.map Nd.rst)[i]'(by simpa using hl) := by rw [List.getElem_map, e]; rfl
    rw [this, List.set_getElem_self]
theorem setU_rst (ns : List Nd) (i : Nat) (u : Int) : (setU ns i u).map Nd.rst = ns.map Nd.rst := by
  unfold setU
  cases hx : ns[i]? with
  | none => rfl
  | some x =>
    simp only [List.map_set]
    obtain ⟨hl, e⟩ := List.getElem?_eq_some_iff.1 hx
    have : Nd.rst { x with up := u } = (ns.map Nd.rst)[i]'(by simpa using hl) := by rw [List.getElem_map, e]; rfl
    rw [this, List.set_getElem_self]
theorem setD_rst (ns : List Nd) (i : Nat) (s : ByteArray) : (setD ns i s).map Nd.rst = ns.map Nd.rst := by
  unfold setD
  cases hx : ns[i]? with
  | none => rfl
  | some x =>
    simp only [List.map_set]
    obtain ⟨hl, e⟩ := List.getElem?_eq_some_iff.1 hx
    have : Nd.rst { x with data := x.data ++ s } = (ns.map Nd.rst)[i]'(by simpa using hl) := by rw [List.getElem_map, e]; rfl
    rw [this, List.set_getElem_self]
theorem outP_rst (ns : List Nd) (n : Int) (v : Value) : (outP ns n v).map Nd.rst = ns.map Nd.rst := by
  unfold outP
  split
  · rw [setU_rst]
    split
    · rw [setK_rst]
    · rfl
  · rfl
theorem putP_rst (ns : List Nd) (up n before : Int) (v1 v2 : Value) : (putP ns up n before v1 v2).map Nd.rst = ns.map Nd.rst := by
  unfold putP
  split
  · rw [setU_rst, setK_rst, outP_rst]
  · rfl
theorem mv_rst {up : Int} {K : List Int} {ns ns' : List Nd} {z : Int} (h : MvR up K ns ns' z) : ns'.map Nd.rst = ns.map Nd.rst := by
  induction h with
  | nil => rfl
  | bad v1 v2 _ => exact putP_rst _ _ _ _ _ _
  | go v1 v2 _ _ ih => rw [ih, putP_rst]
/-- texts' sizes -/
theorem md_dat {ps : List Pl} {i : Nat} {f : Pl → Pl} {B : Nat} (h : ∀ x ∈ ps, x.data.size ≤ B) (hf : ∀ x ∈ ps, (f x).data.size ≤ B) : ∀ x ∈ md ps i f, x.data.size ≤ B := by
  intro x hx
  unfold md at hx
  cases hi : ps[i]? with
  | none => rw [hi] at hx; exact h x hx
  | some y =>
    rw [hi] at hx
    rcases List.mem_or_eq_of_mem_set hx with hx | rfl
    · exact h x hx
    · exact hf y (List.mem_of_getElem? hi)
theorem out_dat {ps : List Pl} {n : Int} {B : Nat} (h : ∀ x ∈ ps, x.data.size ≤ B) : ∀ x ∈ outQ ps n, x.data.size ≤ B := by
  unfold outQ
  split
  · exact h
  · have h1 := md_dat (i := (pAt ps n Pl.up (-1)).toNat) (f := fun y => { y with kids := y.kids.erase n }) h (fun x hx => h x hx)
    exact md_dat h1 (fun x hx => h1 x hx)
theorem put_dat {ps : List Pl} {up n before : Int} {B : Nat} (h : ∀ x ∈ ps, x.data.size ≤ B) : ∀ x ∈ putQ ps up n before, x.data.size ≤ B := by
  unfold putQ
  split
  · have h0 := out_dat (n := n) h
    unfold attQ
    have h1 := md_dat (i := up.toNat) (f := fun y => { y with kids := insL y.kids (plQ (outQ ps n) up before).toNat n.toNat }) h0 (fun x hx => h0 x hx)
    exact md_dat h1 (fun x hx => h1 x hx)
  · exact h
theorem mv_dat {up : Int} {B : Nat} : ∀ (ks : List Int) {ps : List Pl}, (∀ x ∈ ps, x.data.size ≤ B) → ∀ x ∈ (mvQ up ks ps).1, x.data.size ≤ B
  | [], _, h => h
  | k :: ks, ps, h => by
    unfold mvQ
    split
    · exact mv_dat ks (put_dat h)
    · exact h
theorem mvQ_len {up : Int} : ∀ (ks : List Int) (ps : List Pl), (mvQ up ks ps).1.length = ps.length
  | [], _ => rfl
  | k :: ks, ps => by
    unfold mvQ
    split
    · rw [mvQ_len ks, putQ_len]
    · rfl

/-- the tree and the law's own list, the same behind so many steps -/
structure St (w1 : World) (D : Nat) (v : Value) (ns : List Nd) (va : Value) (os : List Ow) (m : Nat) (W : World) : Prop where
  doc : DocM w1.heap.size D v false ns W
  own : OwM w1.heap.size va os W
  eq : ns.map Nd.pl = os.map Ow.pl
  dis : ∀ k, DB D v ns k → ¬ OB va os k
  tr : Tr (os.map Ow.pl)
  bw : Below w1.heap.size w1 W
  len : os.length ≤ 1 + 2 * m
  pos : 0 < os.length
  dat : ∀ x ∈ os.map Ow.pl, x.data.size ≤ 50 * m
  rst : ∀ r ∈ ns.map Nd.rst, r = rst0
section
variable {w1 : World} {D : Nat} {v v' va va' : Value} {ns ns' : List Nd} {os os' : List Ow} {m : Nat} {W W' W'' : World}
theorem St.len2 (h : St w1 D v ns va os m W) : ns.length = os.length := by
  have := congrArg List.length h.eq
  simpa using this
theorem St.kids (h : St w1 D v ns va os m W) : ∀ x ∈ ns, x.kids.length ≤ os.length := by
  intro x hx
  obtain ⟨i, hi⟩ := List.mem_iff_getElem?.1 hx
  have := h.tr.kids_le (i := i) (x := x.pl) (by rw [← h.eq, List.getElem?_map, hi]; rfl)
  rw [List.length_map] at this
  exact this
theorem St.data (h : St w1 D v ns va os m W) : ∀ x ∈ ns, x.data.size ≤ 50 * m := by
  intro x hx
  exact h.dat x.pl (by rw [← h.eq]; exact List.mem_map_of_mem hx)
theorem St.keep {S : Nat → Prop} (h : St w1 D v ns va os m W) (hf : Frm S W W') (hS : ∀ k, S k → w1.heap.size ≤ k ∧ ¬ DB D v ns k ∧ ¬ OB va os k) : St w1 D v ns va os m W' :=
  ⟨h.doc.keep hf (fun k hk e => (hS k e).2.1 hk), h.own.keep hf (fun k hk e => (hS k e).2.2 hk), h.eq, h.dis, h.tr, h.bw.trans (hf.toBelow h.bw.size (fun k e => (hS k e).1)), h.len, h.pos, h.dat, h.rst⟩
theorem St.below (h : St w1 D v ns va os m W) (hb : Below W.heap.size W W') : St w1 D v ns va os m W' := h.keep (S := fun _ => False) (Frm.below hb) (fun _ e => e.elim)
theorem St.more (h : St w1 D v ns va os m W) : St w1 D v ns va os (m + 1) W :=
  ⟨h.doc, h.own, h.eq, h.dis, h.tr, h.bw, by have := h.len; omega, h.pos, fun x hx => by have := h.dat x hx; omega, h.rst⟩
/-- behind a call of the tree, ahead of the law's -/
theorem St.mid (h : St w1 D v ns va os m W) (ha : Adds w1.heap.size D v false ns ns' W W') : ∃ v', DocM w1.heap.size D v' false ns' W' ∧ OwM w1.heap.size va os W' ∧ (∀ k, DB D v' ns' k → ¬ OB va os k) ∧ Below w1.heap.size w1 W' := by
  obtain ⟨v', hd, hf, hn⟩ := ha
  refine ⟨v', hd, h.own.keep hf (fun k hk e => h.dis k e hk), fun k hk e => ?_, h.bw.trans (hf.toBelow h.bw.size (fun k e => (h.doc.in_ k e).1))⟩
  rcases hn k hk with h1 | h1
  · exact h.dis k h1 e
  · have := (h.own.in_ k e).2
    omega
/-- behind both -/
theorem st_fin (hd : DocM w1.heap.size D v' false ns' W') (hdis : ∀ k, DB D v' ns' k → ¬ OB va os k) (hbw : Below w1.heap.size w1 W') (hb : ∀ k, va.ownBlock = some k → w1.heap.size ≤ k)
    (ho : OwM w1.heap.size va' os' W'') (hf : Frm (fun k => va.ownBlock = some k) W' W'') (hn : ∀ k, OB va' os' k → OB va os k ∨ W'.heap.size ≤ k)
    (he : ns'.map Nd.pl = os'.map Ow.pl) (ht : Tr (os'.map Ow.pl)) (hl : os'.length ≤ 1 + 2 * m) (hp : 0 < os'.length) (hdat : ∀ x ∈ os'.map Ow.pl, x.data.size ≤ 50 * m) (hr : ∀ r ∈ ns'.map Nd.rst, r = rst0) :
    St w1 D v' ns' va' os' m W'' := by
  refine ⟨hd.keep hf (fun k hk e => hdis k hk (.inl e)), ho, he, fun k hk e => ?_, ht, hbw.trans (hf.toBelow hbw.size (fun k e => hb k e)), hl, hp, hdat, hr⟩
  rcases hn k e with h | h
  · exact hdis k hk h
  · have := (hd.in_ k hk).2
    omega
theorem St.rg (h : St w1 D v ns va os m W) : ∀ k, va.ownBlock = some k → w1.heap.size ≤ k := fun k e => (h.own.in_ k (.inl e)).1
end
def tab (F : Nat → Value) : Nat → Nat → List Value
  | 0, _ => []
  | n + 1, k => F k :: tab F n (k + 1)
theorem tab_len (F : Nat → Value) : ∀ n k, (tab F n k).length = n
  | 0, _ => rfl
  | n + 1, k => by simp [tab, tab_len F n (k + 1)]
theorem tab_at (F : Nat → Value) : ∀ n k i, i < n → (tab F n k)[i]? = some (F (k + i))
  | 0, _, _, h => by omega
  | n + 1, k, 0, _ => rfl
  | n + 1, k, i + 1, h => by
    have := tab_at F n (k + 1) i (by omega)
    simp only [tab, List.getElem?_cons_succ, this]
    congr 2
    omega
def subC : List Nat → Code → Code
  | [], c => c
  | 0 :: l, .seq a _ => subC l a
  | 1 :: l, .seq _ b => subC l b
  | 2 :: l, .block _ b => subC l b
  | 2 :: l, .loop b => subC l b
  | 3 :: l, .cond _ a _ => subC l a
  | 4 :: l, .cond _ _ b => subC l b
  | _, c => c
/-- the round's block, and the switch in it -/
noncomputable def plB : Code := subC [1, 1, 1, 0, 1, 2, 2, 1, 0, 2] (Try.f21.body.getD .skip)
noncomputable def plS : Code := subC [1, 1, 1, 1, 1, 1, 1, 1] plB
set_option maxRecDepth 100000 in
def frm277 (F : Nat → Value) : Array Value :=
  #[F 0, F 1, F 2, F 3, F 4, F 5, F 6, F 7, F 8, F 9, F 10, F 11, F 12, F 13, F 14, F 15, F 16, F 17, F 18, F 19, F 20, F 21, F 22, F 23, F 24, F 25, F 26, F 27, F 28, F 29, F 30, F 31, F 32, F 33, F 34, F 35, F 36, F 37, F 38, F 39, F 40, F 41, F 42, F 43, F 44, F 45, F 46, F 47, F 48, F 49, F 50, F 51, F 52, F 53, F 54, F 55, F 56, F 57, F 58, F 59, F 60, F 61, F 62, F 63, F 64, F 65, F 66, F 67, F 68, F 69, F 70, F 71, F 72, F 73, F 74, F 75, F 76, F 77, F 78, F 79, F 80, F 81, F 82, F 83, F 84, F 85, F 86, F 87, F 88, F 89, F 90, F 91, F 92, F 93, F 94, F 95, F 96, F 97, F 98, F 99, F 100, F 101, F 102, F 103, F 104, F 105, F 106, F 107, F 108, F 109, F 110, F 111, F 112, F 113, F 114, F 115, F 116, F 117, F 118, F 119, F 120, F 121, F 122, F 123, F 124, F 125, F 126, F 127, F 128, F 129, F 130, F 131, F 132, F 133, F 134, F 135, F 136, F 137, F 138, F 139, F 140, F 141, F 142, F 143, F 144, F 145, F 146, F 147, F 148, F 149, F 150, F 151, F 152, F 153, F 154, F 155, F 156, F 157, F 158, F 159, F 160, F 161, F 162, F 163, F 164, F 165, F 166, F 167, F 168, F 169, F 170, F 171, F 172, F 173, F 174, F 175, F 176, F 177, F 178, F 179, F 180, F 181, F 182, F 183, F 184, F 185, F 186, F 187, F 188, F 189, F 190, F 191, F 192, F 193, F 194, F 195, F 196, F 197, F 198, F 199, F 200, F 201, F 202, F 203, F 204, F 205, F 206, F 207, F 208, F 209, F 210, F 211, F 212, F 213, F 214, F 215, F 216, F 217, F 218, F 219, F 220, F 221, F 222, F 223, F 224, F 225, F 226, F 227, F 228, F 229, F 230, F 231, F 232, F 233, F 234, F 235, F 236, F 237, F 238, F 239, F 240, F 241, F 242, F 243, F 244, F 245, F 246, F 247, F 248, F 249, F 250, F 251, F 252, F 253, F 254, F 255, F 256, F 257, F 258, F 259, F 260, F 261, F 262, F 263, F 264, F 265, F 266, F 267, F 268, F 269, F 270, F 271, F 272, F 273, F 274, F 275, F 276]
set_option maxRecDepth 100000 in
theorem frm277_tab (F : Nat → Value) : (tab F 277 0).toArray = frm277 F := by
  unfold frm277
  kernel_rfl
theorem frm277_of {t : Array Value} (hs : t.size = 277) : t = frm277 (fun k => t.getD k undef) := by
  rw [← frm277_tab]
  apply Array.ext'
  apply List.ext_getElem?
  intro i
  by_cases hi : i < 277
  · rw [List.toList_toArray, tab_at _ _ _ _ hi, Nat.zero_add]
    have : i < t.size := by omega
    simp [this]
  · rw [List.getElem?_eq_none (by simp; omega), List.getElem?_eq_none (by simp [tab_len]; omega)]
structure OpD where
  k : Int
  a : Int
  b : Int
  c : Int
  n : Int
  s : ByteArray
def OpD.cs (o : OpD) : Array Value := #[.int .i64 o.k, .int .i64 o.a, .int .i64 o.b, .int .i64 o.c, .int .i64 o.n, .string o.s]
/-- ahead of the switch -/
structure HS (w1 : World) (D : Nat) (v : Value) (ns : List Nd) (va : Value) (os : List Ow) (m : Nat) (F : Nat → Value) (ob : Nat) (o : OpD) (a b c : Int) (W : World) : Prop where
  st : St w1 D v ns va os m W
  e5 : F 5 = .pointer (some ⟨D, 0, none⟩)
  e6 : F 6 = va
  e8 : F 8 = .pointer (some ⟨ob, 0, none⟩)
  e10 : F 10 = .int .i64 a
  e11 : F 11 = .int .i64 b
  e12 : F 12 = .int .i64 c
  e65 : F 65 = .int .i64 o.k
  hob : W.heap[ob]? = some (.cells o.cs 87 (0, 0))
  obw : w1.heap.size ≤ ob
  obd : ¬ DB D v ns ob
  obo : ¬ OB va os ob
  ha : 0 ≤ a
  hb : 0 ≤ b
  hc : -1 ≤ c ∧ c < os.length
  hs : o.s.size ≤ 50
  hm : m < 60
/-- behind the switch -/
def PSw (w1 : World) (D : Nat) (m : Nat) (F : Nat → Value) (t : Array Value) (W : World) : Prop :=
  t.size = 277 ∧ t.getD 0 undef = F 0 ∧ t.getD 5 undef = .pointer (some ⟨D, 0, none⟩) ∧ t.getD 7 undef = F 7 ∧ ∃ v ns os, St w1 D v ns (t.getD 6 undef) os (m + 1) W
end Go.Proofs.Ytodlcfhkiilpgaa
namespace Go.Proofs.Ytodlcfhkiilpgaa
open Go.RowKit Go.Shelf Go.Lib

set_option maxRecDepth 100000 in
set_option maxHeartbeats 2000000 in
theorem sw_no (Q : Exit → Act → World → Prop) (w1 W : World) (D : Nat) (v va : Value) (ns : List Nd) (os : List Ow) (m : Nat) (F : Nat → Value) (ob : Nat) (o : OpD) (a b c : Int) (h : HS w1 D v ns va os m F ob o a b c W) (hk : o.k < 0 ∨ 4 < o.k)
    (hQ : ∀ t W', PSw w1 D m F t W' → Q .normal ⟨t, []⟩ W') : Code.wp Try.prog plS Q ⟨frm277 F, []⟩ W := by
  obtain ⟨st, e5, e6, e8, e10, e11, e12, e65, hob, _, _, _, _, _, _, _, _⟩ := h
  have k0 : (o.k == 0) = false := by rw [beq_eq_false_iff_ne]; omega
  have k1 : (o.k == 1) = false := by rw [beq_eq_false_iff_ne]; omega
  have k2 : (o.k == 2) = false := by rw [beq_eq_false_iff_ne]; omega
  have k3 : (o.k == 3) = false := by rw [beq_eq_false_iff_ne]; omega
  have k4 : (o.k == 4) = false := by rw [beq_eq_false_iff_ne]; omega
  have HQ := Lib.hid hQ
  have HST := Lib.hid st.more
  have E5 := Lib.hid e5
  have E6 := Lib.hid e6
  clear hQ st hob hk
  unfold frm277
  rw [e5, e6, e8, e10, e11, e12, e65]
  clear e5 e6 e8 e10 e11 e12 e65
  conv => arg 2; whnf
  go_wp2
  exact HQ.out _ _ ⟨rfl, rfl, rfl, rfl, v, ns, os, HST.out⟩
set_option maxRecDepth 100000 in
set_option maxHeartbeats 2000000 in
theorem sw_1 (Q : Exit → Act → World → Prop) (w1 W : World) (D : Nat) (v va : Value) (ns : List Nd) (os : List Ow) (m : Nat) (F : Nat → Value) (ob : Nat) (o : OpD) (a b c : Int) (h : HS w1 D v ns va os m F ob o a b c W) (hk : o.k = 1)
    (hQ : ∀ t W', PSw w1 D m F t W' → Q .normal ⟨t, []⟩ W') : Code.wp Try.prog plS Q ⟨frm277 F, []⟩ W := by
  obtain ⟨st, e5, e6, e8, e10, e11, e12, e65, hob, _, _, _, _, _, _, _, hm⟩ := h
  rw [hk] at e65
  have hl2 := st.len2
  have hle := st.len
  have hkd := st.kids
  have KP := Lib.hid (put_any a b c W st.doc (by omega) (fun x hx => by have := hkd x hx; omega))
  have hE : putE ns a b c = putEQ (os.map Ow.pl) a b c := by rw [← st.eq]; exact putE_pl (by rw [st.eq]; exact st.tr) (by omega) a b c
  have hP : ∀ v1 v2, (putP ns a b c v1 v2).map Nd.pl = putQ (os.map Ow.pl) a b c := fun v1 v2 => by rw [← st.eq]; exact putP_pl (by rw [st.eq]; exact st.tr) (by omega) a b c v1 v2
  unfold PutPost at KP
  rw [hE] at KP
  obtain ⟨z, hz⟩ : ∃ z, putEQ (os.map Ow.pl) a b c = z := ⟨_, rfl⟩
  rw [hz] at KP
  have dz : (z != z) = false := by simp
  have HZ := Lib.hid hz
  have HP := Lib.hid hP
  have HQ := Lib.hid hQ
  have HST := Lib.hid st
  clear hQ st hob hk hl2 hkd hE hP hz
  unfold frm277
  rw [e5, e6, e8, e10, e11, e12, e65]
  clear e5 e6 e8 e10 e11 e12 e65
  conv => arg 2; whnf
  go_wp2_with fail
  refine KP.out.mono ?_
  rintro e W2 ⟨v1, v2, rfl, hT⟩
  obtain ⟨v', hd, hown, hdis, hbw⟩ := HST.out.mid hT.adds
  have KL := lput_any a b c W2 hown HST.out.tr hbw.size (by omega)
  unfold LPut at KL
  rw [HZ.out] at KL
  replace KL := Lib.hid KL
  have HD := Lib.hid hd
  have HDIS := Lib.hid hdis
  have HBW := Lib.hid hbw
  clear hT hd hown hdis hbw
  go_wp2_with fail
  refine KL.out.mono ?_
  rintro e W3 ⟨os', rfl, hp, ho, hf, hn⟩
  have hlen : os'.length = os.length := by rw [ow_len hp, putQ_len, List.length_map]
  have hst := HST.out
  have HFIN := Lib.hid (st_fin HD.out HDIS.out HBW.out hst.rg ho hf hn (by rw [HP.out, hp]) (by rw [hp]; exact putQ_tr hst.tr _ _ _) (m := m + 1) (by rw [hlen]; omega) (by rw [hlen]; exact hst.pos) (by rw [hp]; exact put_dat (fun x hx => by have := hst.dat x hx; omega)) (by rw [putP_rst]; exact hst.rst))
  clear hp ho hf hn hst hlen
  go_wp2
  exact HQ.out _ _ ⟨rfl, rfl, rfl, rfl, v', _, os', HFIN.out⟩
set_option maxRecDepth 100000 in
set_option maxHeartbeats 2000000 in
theorem sw_2 (Q : Exit → Act → World → Prop) (w1 W : World) (D : Nat) (v va : Value) (ns : List Nd) (os : List Ow) (m : Nat) (F : Nat → Value) (ob : Nat) (o : OpD) (a b c : Int) (h : HS w1 D v ns va os m F ob o a b c W) (hk : o.k = 2)
    (hQ : ∀ t W', PSw w1 D m F t W' → Q .normal ⟨t, []⟩ W') : Code.wp Try.prog plS Q ⟨frm277 F, []⟩ W := by
  obtain ⟨st, e5, e6, e8, e10, e11, e12, e65, hob, _, _, _, ha, _, _, _, hm⟩ := h
  rw [hk] at e65
  have hl2 := st.len2
  have hle := st.len
  obtain ⟨Av, cv, hv, _⟩ := st.own.sl
  rw [hv] at e6
  have KO := Lib.hid (out_any a W st.doc)
  have HQ := Lib.hid hQ
  have HST := Lib.hid st
  have HV := Lib.hid hv
  by_cases hin : a < os.length
  · have d1 : decide (a < (os.length : Int)) = true := decide_eq_true hin
    obtain ⟨i, rfl⟩ : ∃ i : Nat, a = i := ⟨a.toNat, by omega⟩
    have hil : i < os.length := by omega
    obtain ⟨x, hx⟩ : ∃ x, os[i]? = some x := ⟨_, List.getElem?_eq_getElem (by omega)⟩
    have hP : ∀ v1, (outP ns i v1).map Nd.pl = outQ (os.map Ow.pl) i := fun v1 => by rw [← st.eq]; exact outP_pl (by rw [st.eq]; exact st.tr) v1 (by unfold inN; rw [decide_eq_true (by omega), decide_eq_true (by omega)]; rfl)
    have HP := Lib.hid hP
    have HX := Lib.hid hx
    clear hQ st hob hk hl2 hP hx hv hin
    unfold frm277
    rw [e5, e6, e8, e10, e11, e12, e65]
    clear e5 e6 e8 e10 e11 e12 e65
    conv => arg 2; whnf
    go_wp2_with fail
    refine KO.out.mono ?_
    rintro e W2 ⟨rfl, v1, hT⟩
    obtain ⟨v', hd, hown, hdis, hbw⟩ := HST.out.mid hT.adds
    have KL := lout_any i x W2 hown HST.out.tr HX.out (by omega)
    rw [HV.out] at KL
    replace KL := Lib.hid KL
    have HD := Lib.hid hd
    have HDIS := Lib.hid hdis
    have HBW := Lib.hid hbw
    clear hT hd hown hdis hbw
    go_wp2_with fail
    refine KL.out.mono ?_
    rintro e W3 ⟨rfl, os', hp, ho, hf, hn⟩
    have hlen : os'.length = os.length := by rw [ow_len hp, outQ_len, List.length_map]
    have hst := HST.out
    have hx' : (os.map Ow.pl)[i]? = some x.pl := by rw [List.getElem?_map, HX.out]; rfl
    rw [← HV.out] at ho hf hn
    have HFIN := Lib.hid (st_fin HD.out HDIS.out HBW.out hst.rg ho hf hn (by rw [HP.out, hp]) (by rw [hp]; exact outQ_tr hst.tr hx') (m := m + 1) (by rw [hlen]; omega) (by rw [hlen]; exact hst.pos) (by rw [hp]; exact out_dat (fun x hx => by have := hst.dat x hx; omega)) (by rw [outP_rst]; exact hst.rst))
    rw [HV.out] at HFIN
    clear hp ho hf hn hst hlen hx'
    go_wp2
    exact HQ.out _ _ ⟨rfl, rfl, rfl, rfl, v', _, os', HFIN.out⟩
  · have d1 : decide (a < (os.length : Int)) = false := decide_eq_false hin
    have hP : ∀ v1, outP ns a v1 = ns := fun v1 => by unfold outP; rw [if_neg]; unfold inN; rw [decide_eq_false (p := a < (ns.length : Int)) (by omega)]; simp
    have HP := Lib.hid hP
    clear hQ st hob hk hl2 hP hv hin
    unfold frm277
    rw [e5, e6, e8, e10, e11, e12, e65]
    clear e5 e6 e8 e10 e11 e12 e65
    conv => arg 2; whnf
    go_wp2_with fail
    refine KO.out.mono ?_
    rintro e W2 ⟨rfl, v1, hT⟩
    rw [HP.out] at hT
    obtain ⟨v', hd, hown, hdis, hbw⟩ := HST.out.mid hT.adds
    have hst := HST.out
    have HFIN := Lib.hid (St.more ⟨hd, hown, hst.eq, hdis, hst.tr, hbw, hst.len, hst.pos, hst.dat, hst.rst⟩)
    rw [HV.out] at HFIN
    clear hT hd hown hdis hbw hst
    go_wp2
    exact HQ.out _ _ ⟨rfl, rfl, rfl, rfl, v', _, os, HFIN.out⟩
end Go.Proofs.Ytodlcfhkiilpgaa
namespace Go.Proofs.Ytodlcfhkiilpgaa
open Go.RowKit Go.Shelf Go.Lib

/-- a tree and the law's own list, apart from each other -/
structure Pr (w1 : World) (D : Nat) (v : Value) (ns : List Nd) (va : Value) (os : List Ow) (W : World) : Prop where
  doc : DocM w1.heap.size D v false ns W
  own : OwM w1.heap.size va os W
  dis : ∀ k, DB D v ns k → ¬ OB va os k
  bw : Below w1.heap.size w1 W
section
variable {w1 : World} {D : Nat} {v v' va va' : Value} {ns ns' : List Nd} {os os' : List Ow} {m : Nat} {W W' W'' : World}
theorem St.pr (h : St w1 D v ns va os m W) : Pr w1 D v ns va os W := ⟨h.doc, h.own, h.dis, h.bw⟩
theorem Pr.adds (h : Pr w1 D v ns va os W) (ha : Adds w1.heap.size D v false ns ns' W W') : ∃ v', Pr w1 D v' ns' va os W' := by
  obtain ⟨v', hd, hf, hn⟩ := ha
  refine ⟨v', hd, h.own.keep hf (fun k hk e => h.dis k e hk), fun k hk e => ?_, h.bw.trans (hf.toBelow h.bw.size (fun k e => (h.doc.in_ k e).1))⟩
  rcases hn k hk with h1 | h1
  · exact h.dis k h1 e
  · have := (h.own.in_ k e).2
    omega
theorem Pr.law (h : Pr w1 D v ns va os W) (ho : OwM w1.heap.size va' os' W') (hf : Frm (fun k => va.ownBlock = some k) W W') (hn : ∀ k, OB va' os' k → OB va os k ∨ W.heap.size ≤ k) : Pr w1 D v ns va' os' W' := by
  refine ⟨h.doc.keep hf (fun k hk e => h.dis k hk (.inl e)), ho, fun k hk e => ?_, h.bw.trans (hf.toBelow h.bw.size (fun k e => (h.own.in_ k (.inl e)).1))⟩
  rcases hn k e with e | e
  · exact h.dis k hk e
  · have := (h.doc.in_ k hk).2
    omega
theorem Pr.keep {S : Nat → Prop} (h : Pr w1 D v ns va os W) (hf : Frm S W W') (hS : ∀ k, S k → w1.heap.size ≤ k ∧ ¬ DB D v ns k ∧ ¬ OB va os k) : Pr w1 D v ns va os W' :=
  ⟨h.doc.keep hf (fun k hk e => (hS k e).2.1 hk), h.own.keep hf (fun k hk e => (hS k e).2.2 hk), h.dis, h.bw.trans (hf.toBelow h.bw.size (fun k e => (hS k e).1))⟩
theorem Pr.below (h : Pr w1 D v ns va os W) (hb : Below W.heap.size W W') : Pr w1 D v ns va os W' := h.keep (S := fun _ => False) (Frm.below hb) (fun _ e => e.elim)
theorem Pr.st (h : Pr w1 D v ns va os W) (he : ns.map Nd.pl = os.map Ow.pl) (ht : Tr (os.map Ow.pl)) (hl : os.length ≤ 1 + 2 * m) (hp : 0 < os.length) (hdat : ∀ x ∈ os.map Ow.pl, x.data.size ≤ 50 * m) (hr : ∀ r ∈ ns.map Nd.rst, r = rst0) : St w1 D v ns va os m W :=
  ⟨h.doc, h.own, he, h.dis, ht, h.bw, hl, hp, hdat, hr⟩
end
/-- how far the law's own Move is -/
def MvS (p : Int) (K : List Int) (ps0 ps : List Pl) (j : Nat) (z : Int) : Prop := (if z = 0 then mvQ p (K.drop j) ps else (ps, z)) = mvQ p K ps0
set_option maxRecDepth 100000 in
set_option maxHeartbeats 4000000 in
theorem sw_4 (Q : Exit → Act → World → Prop) (w1 W : World) (D : Nat) (v va : Value) (ns : List Nd) (os : List Ow) (m : Nat) (F : Nat → Value) (ob : Nat) (o : OpD) (a b c : Int) (h : HS w1 D v ns va os m F ob o a b c W) (hk : o.k = 4)
    (hQ : ∀ t W', PSw w1 D m F t W' → Q .normal ⟨t, []⟩ W') : Code.wp Try.prog plS Q ⟨frm277 F, []⟩ W := by
  obtain ⟨st, e5, e6, e8, e10, e11, e12, e65, hob, _, _, _, ha, hb, _, _, hm⟩ := h
  rw [hk] at e65
  have hl2 := st.len2
  have hle := st.len
  have hkd := st.kids
  obtain ⟨Av, cv, hv, _, _, hgv⟩ := st.own.sl
  rw [hv] at e6
  have hkd2 : (kdN ns a).length ≤ os.length := by
    unfold kdN
    cases hq : inN ns a with
    | false => rw [atN_none hq]; exact Nat.zero_le _
    | true =>
      obtain ⟨i, z, e, hi⟩ := inN_at hq
      rw [e, atN_some hi]
      exact hkd z (List.mem_of_getElem? hi)
  have HQ := Lib.hid hQ
  have HST := Lib.hid st
  have HV := Lib.hid hv
  have KM := Lib.hid (fun (W' : World) (h : DocM w1.heap.size D v false ns W') => move_any a b W' h (by omega) (by have h1 := h.ge; have h2 := h.lt; omega) os.length hkd (by omega))
  by_cases hin : inN ns a = true ∧ inN ns b = true ∧ a ≠ b
  · obtain ⟨hia, hib, hab⟩ := hin
    obtain ⟨i, x, rfl, hx⟩ := inN_at hia
    obtain ⟨p, y, rfl, hy⟩ := inN_at hib
    have hil := (List.getElem?_eq_some_iff.1 hx).1
    have hpl := (List.getElem?_eq_some_iff.1 hy).1
    rw [hl2] at hil hpl
    have d1 : decide ((os.length : Int) ≤ (i : Int)) = false := decide_eq_false (by omega)
    have d2 : decide ((os.length : Int) ≤ (p : Int)) = false := decide_eq_false (by omega)
    have d3 : ((i : Int) == (p : Int)) = false := by rw [beq_eq_false_iff_ne]; exact hab
    obtain ⟨ox, hox⟩ : ∃ ox, os[i]? = some ox := ⟨_, List.getElem?_eq_getElem hil⟩
    obtain ⟨A0, c00, e0, hK0le, hK0mx, hA0, hr0⟩ := kid_form st.own hox
    obtain ⟨g, rfl, hbg, hgl⟩ := hgv (by omega)
    have c4 : W.cell? ⟨g, i * 6 + 4, none⟩ = some (.slice A0 ox.pl.kids.length c00) := by
      have := (hv ▸ st.own).cell hox (show 4 < 6 by omega)
      simp only [Ow.cs, List.getElem?_cons_succ, List.getElem?_cons_zero, e0] at this
      exact this
    obtain ⟨K, hK⟩ : ∃ K, ox.pl.kids = K := ⟨_, rfl⟩
    rw [hK] at c4 hr0 hK0le e0
    have hKd : kdN ns (i : Int) = K := by rw [kdN_pl, st.eq, pAt_some (x := ox.pl) (by rw [List.getElem?_map, hox]; rfl), hK]
    have hKl : K.length ≤ os.length := by rw [← hKd]; exact hkd2
    have hgI : (i : Int) * 6 = ((i * 6 : Nat) : Int) := by omega
    obtain ⟨i0, hi, hz0, hz1, hz2⟩ := info_parts infoInt
    have FB := Lib.hid (show Below W.heap.size W (W.alloc (.cells #[] 3)) from (Below.refl _ W).alloc (Nat.le_refl _) _)
    have HO1 : Hid ((W.alloc (.cells #[] 3)).ownsRow W.heap.size 3 1 (.slice (some ⟨W.heap.size, 0, none⟩) 0 0) 0 []) := Lib.hid (World.ownsRow_lit W #[] 0 (Nat.le_refl _) (by decide) rfl)
    have HR0 := Lib.hid (hr0.below FB.out)
    have HN0 : Hid (A0 = none → c00 = 0) := Lib.hid (fun e => by rcases hA0 with ⟨_, h⟩ | ⟨_, _, h⟩; exact h; rw [h] at e; cases e)
    have HM1 : Hid (0 + K.length ≤ maxLen) := Lib.hid (by unfold maxLen; omega)
    have HM2 : Hid ((0 + K.length) * 8 ≤ 140737488355328) := Lib.hid (by omega)
    have HKD := Lib.hid hKd
    have HAB := Lib.hid hab
    have HIA := Lib.hid hia
    have HIB := Lib.hid hib
    have HEQ := Lib.hid st.eq
    clear hQ st hob hk hkd hv hgv hx hy hox e0 hA0 hr0 hK hKd hkd2 hia hib hab
    unfold frm277
    rw [e5, e6, e8, e10, e11, e12, e65]
    clear e5 e6 e8 e10 e11 e12 e65
    conv => arg 2; whnf
    go_wp2_with (at_builtin; refine wpList_append_rd rfl 27 rfl W.heap.size 3 i0 _ 8 Try.underlying27 hi hz0 hz1 hz2 _ 0 [] rfl HO1.out A0 K.length c00 rfl K .i64 rfl HR0.out HN0.out rfl HM1.out HM2.out FB.out.size ?_; intro v5 w5 ho5 hg5; rw [List.nil_append, Nat.zero_add] at ho5; obtain ⟨A5, c5, hv5⟩ := own_slice ho5; subst hv5; have HO5 := Lib.hid ho5; have HB5 : Hid (Below W.heap.size W w5) := Lib.hid (FB.out.grown hg5 FB.out.size (fun j e => (by cases e; exact Nat.le_refl _))); clear ho5 hg5)
    have hst := HST.out
    go_loopw [18, 256] (fun zv jv wr => ∃ (z : Int) (j : Nat) (osj : List Ow), zv = .int .i64 z ∧ jv = .int .i64 j ∧ j ≤ K.length ∧ osj.length = os.length ∧ Hid (Pr w1 D v ns va osj wr) ∧ Hid (wr.ownsRow W.heap.size 3 1 (.slice A5 K.length c5) K.length (K.map (Value.int .i64))) ∧ Hid (Tr (osj.map Ow.pl)) ∧ Hid (MvS p K (os.map Ow.pl) (osj.map Ow.pl) j z) ∧ W.heap.size ≤ wr.heap.size) (fun _ jv _ => K.length - (RowKit.intOf jv).toNat)
    case atStart => exact ⟨0, 0, os, rfl, rfl, Nat.zero_le _, rfl, Lib.hid (hst.pr.below HB5.out), HO5, Lib.hid hst.tr, Lib.hid rfl, HB5.out.size⟩
    case round =>
      obtain ⟨z, j, osj, rfl, rfl, hj, hlj, HPR, HOW, HTR, HMV, hsz⟩ := hrel
      by_cases hjl : j < K.length
      · have dj : decide ((j : Int) < (K.length : Int)) = true := decide_eq_true (by omega)
        obtain ⟨k, hk⟩ : ∃ k, K[j]? = some k := ⟨_, List.getElem?_eq_getElem hjl⟩
        obtain ⟨g5, hA5, cj⟩ : ∃ g5, A5 = some ⟨g5, 0, none⟩ ∧ wr.cell? ⟨g5, j, none⟩ = some (.int .i64 k) := by
          rcases HOW.out.2 with ⟨h1, h0⟩ | ⟨g5, cap, cur, e, _⟩
          · omega
          · injection e with e1 _ _
            subst e1
            refine ⟨g5, rfl, ?_⟩
            have := HOW.out.cellAt j (by omega)
            rw [List.getElem?_map, hk] at this
            simpa using this
        subst hA5
        have hdr : K.drop j = k :: K.drop (j + 1) := by
          rw [List.drop_eq_getElem_cons hjl]
          rw [List.getElem?_eq_getElem hjl] at hk
          injection hk with hk
          rw [hk]
        by_cases hz : z = 0
        · subst hz
          have KL := lput_any p k (-1) wr HPR.out.own HTR.out HPR.out.bw.size (by omega)
          unfold LPut at KL
          rw [HV.out] at KL
          replace KL := Lib.hid KL
          have HDR := Lib.hid hdr
          clear hk hdr
          go_wp2_with fail
          refine KL.out.mono ?_
          rintro e W3 ⟨os', rfl, hp, ho, hf, hn⟩
          rw [← HV.out] at ho hf hn
          have hlen : os'.length = os.length := by rw [ow_len hp, putQ_len, List.length_map]; exact hlj
          have HP3 := Lib.hid (HPR.out.law ho hf hn)
          have HO3 : Hid (W3.ownsRow W.heap.size 3 1 (.slice (some ⟨g5, 0, none⟩) K.length c5) K.length (K.map (Value.int .i64))) := Lib.hid (hf.own HOW.out (fun q e1 e2 => by
            have h1 := (HOW.out.lt q e1).1
            have h2 := (HST.out.own.in_ q (.inl e2)).2
            omega))
          have HT3 : Hid (Tr (os'.map Ow.pl)) := Lib.hid (by rw [hp]; exact putQ_tr HTR.out _ _ _)
          have HM3 : Hid (MvS p K (os.map Ow.pl) (os'.map Ow.pl) (j + 1) (putEQ (osj.map Ow.pl) p k (-1))) := Lib.hid (by
            have := HMV.out
            unfold MvS at this ⊢
            rw [if_pos rfl, HDR.out] at this
            rw [← this, hp]
            conv => rhs; unfold mvQ
            by_cases h0 : putEQ (osj.map Ow.pl) p k (-1) = 0
            · rw [if_pos h0, if_pos h0]
            · rw [if_neg h0, if_neg h0]
              congr 1
              unfold putQ
              rw [if_neg h0])
          have hsz3 : W.heap.size ≤ W3.heap.size := Nat.le_trans hsz hf.size
          clear ho hf hn hp KL
          go_wp2
          refine ⟨⟨_, j + 1, os', rfl, by go_num, by omega, hlen, HP3, HO3, HT3, HM3, hsz3⟩, by simp [RowKit.intOf]; omega⟩
        · have dz : (z == 0) = false := by rw [beq_eq_false_iff_ne]; exact hz
          have HM3 : Hid (MvS p K (os.map Ow.pl) (osj.map Ow.pl) (j + 1) z) := Lib.hid (by
            have := HMV.out
            unfold MvS at this ⊢
            rw [if_neg hz] at this ⊢
            exact this)
          clear hk hdr hz
          go_wp2
          refine ⟨⟨z, j + 1, osj, rfl, by go_num, by omega, hlj, HPR, HOW, HTR, HM3, hsz⟩, by simp [RowKit.intOf]; omega⟩
      · obtain rfl : j = K.length := by omega
        have dj : decide ((K.length : Int) < (K.length : Int)) = false := decide_eq_false (by omega)
        have hmv : (osj.map Ow.pl, z) = mvQ p K (os.map Ow.pl) := by
          have := HMV.out
          unfold MvS at this
          rw [← this]
          by_cases hz : z = 0
          · rw [if_pos hz, List.drop_eq_nil_of_le (Nat.le_refl _)]; unfold mvQ; rw [hz]
          · rw [if_neg hz]
        have HMV2 := Lib.hid hmv
        have KM2 := Lib.hid (KM.out wr HPR.out.doc)
        have dz : (z != z) = false := by simp
        clear hmv
        go_wp2_with fail
        refine KM2.out.mono ?_
        rintro e W4 ⟨ns', z', hor, rfl, hA⟩
        have hmr : MvR p K ns ns' z' := by
          rcases hor with ⟨_, _, _, h⟩ | ⟨h, _⟩
          · rw [HKD.out] at h; exact h
          · rcases h with h | h | h
            · rw [HIA.out] at h; cases h
            · rw [HIB.out] at h; cases h
            · exact absurd h HAB.out
        have hm2 := mv_pl hmr (by rw [HEQ.out]; exact HST.out.tr) (by omega)
        rw [HEQ.out, ← HMV2.out] at hm2
        injection hm2 with hm2 hzz
        subst hzz
        obtain ⟨v', hp4⟩ := HPR.out.adds hA
        have hst := HST.out
        have HFIN := Lib.hid (hp4.st (m := m + 1) hm2 HTR.out (by omega) (by omega) (by
          have e1 : osj.map Ow.pl = (mvQ p K (os.map Ow.pl)).1 := by rw [← HMV2.out]
          rw [e1]
          exact mv_dat K (fun x hx => by have := hst.dat x hx; omega)) (by rw [mv_rst hmr]; exact hst.rst))
        rw [HV.out] at HFIN
        clear hor hA hmr hm2 hp4 hst
        go_wp2
        exact HQ.out _ _ ⟨rfl, rfl, rfl, rfl, v', ns', osj, HFIN.out⟩
  · have HIN := Lib.hid hin
    have hn : ∀ q : Int, 0 ≤ q → (inN ns q = true ↔ q < os.length) := fun q hq => by
      unfold inN
      rw [decide_eq_true hq, Bool.true_and, decide_eq_true_eq, hl2]
    rw [hn a ha, hn b hb] at hin
    clear hn
    by_cases h1 : (os.length : Int) ≤ a
    · have d1 : decide ((os.length : Int) ≤ a) = true := decide_eq_true h1
      have KM2 := Lib.hid (KM.out W st.doc)
      clear hQ st hob hk hkd hv hgv hkd2 hin h1
      unfold frm277
      rw [e5, e6, e8, e10, e11, e12, e65]
      clear e5 e6 e8 e10 e11 e12 e65
      conv => arg 2; whnf
      go_wp2_with fail
      refine KM2.out.mono ?_
      rintro e W4 ⟨ns', z', hor, rfl, hA⟩
      obtain ⟨rfl, rfl⟩ : ns' = ns ∧ z' = 1 := by
        rcases hor with ⟨h1, h2, h3, _⟩ | ⟨_, h, h'⟩
        · exact absurd ⟨h1, h2, h3⟩ HIN.out
        · exact ⟨h, h'⟩
      have hst := HST.out
      obtain ⟨v', hp4⟩ := hst.pr.adds hA
      have HFIN := Lib.hid (hp4.st (m := m + 1) hst.eq hst.tr (by omega) hst.pos (fun x hx => by have := hst.dat x hx; omega) hst.rst)
      rw [HV.out] at HFIN
      clear hor hA hp4 hst
      go_wp2
      exact HQ.out _ _ ⟨rfl, rfl, rfl, rfl, v', ns', os, HFIN.out⟩
    · have d1 : decide ((os.length : Int) ≤ a) = false := decide_eq_false h1
      by_cases h2 : (os.length : Int) ≤ b
      · have d2 : decide ((os.length : Int) ≤ b) = true := decide_eq_true h2
        have KM2 := Lib.hid (KM.out W st.doc)
        clear hQ st hob hk hkd hv hgv hkd2 hin h1 h2
        unfold frm277
        rw [e5, e6, e8, e10, e11, e12, e65]
        clear e5 e6 e8 e10 e11 e12 e65
        conv => arg 2; whnf
        go_wp2_with fail
        refine KM2.out.mono ?_
        rintro e W4 ⟨ns', z', hor, rfl, hA⟩
        obtain ⟨rfl, rfl⟩ : ns' = ns ∧ z' = 1 := by
          rcases hor with ⟨h1, h2, h3, _⟩ | ⟨_, h, h'⟩
          · exact absurd ⟨h1, h2, h3⟩ HIN.out
          · exact ⟨h, h'⟩
        have hst := HST.out
        obtain ⟨v', hp4⟩ := hst.pr.adds hA
        have HFIN := Lib.hid (hp4.st (m := m + 1) hst.eq hst.tr (by omega) hst.pos (fun x hx => by have := hst.dat x hx; omega) hst.rst)
        rw [HV.out] at HFIN
        clear hor hA hp4 hst
        go_wp2
        exact HQ.out _ _ ⟨rfl, rfl, rfl, rfl, v', ns', os, HFIN.out⟩
      · have d2 : decide ((os.length : Int) ≤ b) = false := decide_eq_false h2
        have d3 : (a == b) = true := by
          rw [beq_iff_eq]
          rcases Classical.em (a = b) with h | h
          · exact h
          · exact absurd ⟨by omega, by omega, h⟩ hin
        have KM2 := Lib.hid (KM.out W st.doc)
        clear hQ st hob hk hkd hv hgv hkd2 hin h1 h2
        unfold frm277
        rw [e5, e6, e8, e10, e11, e12, e65]
        clear e5 e6 e8 e10 e11 e12 e65
        conv => arg 2; whnf
        go_wp2_with fail
        refine KM2.out.mono ?_
        rintro e W4 ⟨ns', z', hor, rfl, hA⟩
        obtain ⟨rfl, rfl⟩ : ns' = ns ∧ z' = 1 := by
          rcases hor with ⟨h1, h2, h3, _⟩ | ⟨_, h, h'⟩
          · exact absurd ⟨h1, h2, h3⟩ HIN.out
          · exact ⟨h, h'⟩
        have hst := HST.out
        obtain ⟨v', hp4⟩ := hst.pr.adds hA
        have HFIN := Lib.hid (hp4.st (m := m + 1) hst.eq hst.tr (by omega) hst.pos (fun x hx => by have := hst.dat x hx; omega) hst.rst)
        rw [HV.out] at HFIN
        clear hor hA hp4 hst
        go_wp2
        exact HQ.out _ _ ⟨rfl, rfl, rfl, rfl, v', ns', os, HFIN.out⟩
end Go.Proofs.Ytodlcfhkiilpgaa
