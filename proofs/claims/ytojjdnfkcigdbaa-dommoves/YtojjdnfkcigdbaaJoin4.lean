/- Rows of attributes in memory; first, place, Get, Clone, same. Trees in memory: a row of nodes of ten cells each, and each node's own row of kids. What the laws of layer 8 keep beside a tree, in memory; whether a node is beneath another one. Small calls of a tree: size, has, Kind, Up, kids, inner. More small calls of a tree: Up, kids, inner, holds, above. -/
import Derived.Test.YtojjdnfkcigdbaaJoin2
import Derived.Test.YtojjdnfkcigdbaaJoin0
import Derived.Test.YtojjdnfkcigdbaaKShelf
import Derived.Laws.StructEq
import Derived.Deep.QuietTactic
import Derived.BigQuiet
import Derived.Laws.OwnMore
namespace Go.Proofs.Ytojjdnfkcigdbaa
open Go.RowKit Go.Lib

theorem infoAt : (Try.prog.info? 57).map (fun i => (i.zero, i.size, i.bytes)) = some (some (.agg #[.string ⟨#[]⟩, .string ⟨#[]⟩]), 2, 32) := by kernel_rfl
def encA (x : Atr) : List Value := [.string x.1, .string x.2]
def cellsA (xs : List Atr) : List Value := xs.flatMap encA
theorem cellsA_len (xs : List Atr) : (cellsA xs).length = xs.length * 2 := by
  unfold cellsA
  induction xs with
  | nil => rfl
  | cons x xs ih => rw [List.flatMap_cons, List.length_append, ih]; simp [encA]; omega
theorem cellsA_snoc (xs ys : List Atr) : cellsA (xs ++ ys) = cellsA xs ++ cellsA ys := by simp [cellsA]
theorem cellsA_one (xs : List Atr) : ∀ u ∈ cellsA xs, u.oneCell' = true := by
  intro u hu
  simp only [cellsA, List.mem_flatMap, encA] at hu
  obtain ⟨x, _, hx⟩ := hu
  simp at hx
  rcases hx with rfl | rfl <;> rfl
theorem cellsA_get (xs : List Atr) : ∀ (i : Nat) (x : Atr), xs[i]? = some x → (cellsA xs)[i * 2]? = some (.string x.1) ∧ (cellsA xs)[i * 2 + 1]? = some (.string x.2) := by
  induction xs with
  | nil => intro i x h; simp at h
  | cons y xs ih =>
    intro i x h
    have hc : cellsA (y :: xs) = .string y.1 :: .string y.2 :: cellsA xs := rfl
    rw [hc]
    cases i with
    | zero => simp at h; subst h; exact ⟨rfl, rfl⟩
    | succ i =>
      have := ih i x (by simpa using h)
      rw [show (i + 1) * 2 = i * 2 + 1 + 1 by omega]
      simpa using this
theorem cellsA_inv (xs : List Atr) (j : Nat) (u : Value) (h : (cellsA xs)[j]? = some u) : ∃ i x, xs[i]? = some x ∧ (j = i * 2 ∧ u = .string x.1 ∨ j = i * 2 + 1 ∧ u = .string x.2) := by
  have hl := (List.getElem?_eq_some_iff.1 h).1
  rw [cellsA_len] at hl
  have hi : j / 2 < xs.length := by omega
  refine ⟨j / 2, xs[j / 2], List.getElem?_eq_getElem hi, ?_⟩
  have hg := cellsA_get xs (j / 2) _ (List.getElem?_eq_getElem hi)
  rcases Nat.mod_two_eq_zero_or_one j with e | e
  · left
    have : j / 2 * 2 = j := by omega
    rw [this, h] at hg
    exact ⟨this.symm, Option.some.inj hg.1⟩
  · right
    have : j / 2 * 2 + 1 = j := by omega
    rw [this, h] at hg
    exact ⟨this.symm, Option.some.inj hg.2⟩

/-- the slice at A holds xs -/
def RdA (w : World) (A : Option Addr) (xs : List Atr) : Prop :=
  xs = [] ∨ ∃ b off, A = some ⟨b, off, none⟩ ∧ b < w.heap.size ∧ ∀ (i : Nat) (x : Atr), xs[i]? = some x → w.cell? ⟨b, off + i * 2, none⟩ = some (.string x.1) ∧ w.cell? ⟨b, off + i * 2 + 1, none⟩ = some (.string x.2)
theorem RdA.keep {w w' : World} {A : Option Addr} {xs : List Atr} (h : RdA w A xs) (hs : w.heap.size ≤ w'.heap.size) (hc : ∀ p : Addr, p.block < w.heap.size → w'.cell? p = w.cell? p) : RdA w' A xs := by
  rcases h with h | ⟨b, off, rfl, hb, h⟩
  · exact .inl h
  · exact .inr ⟨b, off, rfl, by omega, fun i x hi => ⟨(hc _ hb).trans (h i x hi).1, (hc _ hb).trans (h i x hi).2⟩⟩
theorem RdA.below {w w' : World} {A : Option Addr} {xs : List Atr} (h : RdA w A xs) (hb : Below w.heap.size w w') : RdA w' A xs :=
  h.keep hb.size fun _ hp => hb.cell hp
theorem RdA.at_ {w : World} {A : Option Addr} {xs : List Atr} {i : Nat} {x : Atr} (h : RdA w A xs) (hx : xs[i]? = some x) : ∃ b off, A = some ⟨b, off, none⟩ ∧ b < w.heap.size ∧ w.cell? ⟨b, off + i * 2, none⟩ = some (.string x.1) ∧ w.cell? ⟨b, off + i * 2 + 1, none⟩ = some (.string x.2) := by
  rcases h with rfl | ⟨b, off, hA, hb, h⟩
  · simp at hx
  · exact ⟨b, off, hA, hb, h i x hx⟩
theorem RdA.cells {w : World} {ad : Addr} {xs : List Atr} (h : RdA w (some ad) xs) : ∀ (j : Nat) (u : Value), (cellsA xs)[j]? = some u → w.cell? (ad.add j) = some u := by
  intro j u hu
  obtain ⟨i, x, hx, hj⟩ := cellsA_inv xs j u hu
  obtain ⟨b, off, hA, _, h1, h2⟩ := h.at_ hx
  obtain rfl : ad = ⟨b, off, none⟩ := by injection hA
  rw [Addr.add_lit]
  rcases hj with ⟨rfl, rfl⟩ | ⟨rfl, rfl⟩
  · exact h1
  · exact h2
theorem RdA.own {w : World} {base : Nat} {e : TypeId} {v : Value} {n : Nat} {xs : List Atr} (h : w.ownsRow base e 2 v n (cellsA xs)) : ∃ A cap, v = .slice A n cap ∧ xs.length = n ∧ n ≤ cap ∧ (A = none → cap = 0) ∧ RdA w A xs := by
  have hl : xs.length = n := by have := h.1; rw [cellsA_len] at this; omega
  subst hl
  have hh := h
  rcases h.2 with ⟨rfl, hn⟩ | ⟨g, cap, cur, rfl, _, hg, hnc, _⟩
  · have hx : xs = [] := List.eq_nil_of_length_eq_zero hn
    subst hx
    exact ⟨none, 0, rfl, rfl, by simp, fun _ => rfl, .inl rfl⟩
  · refine ⟨some ⟨g, 0, none⟩, cap, rfl, rfl, hnc, (fun h => by cases h), .inr ⟨g, 0, rfl, (Array.getElem?_eq_some_iff.1 hg).1, fun i x hi => ?_⟩⟩
    have hc := cellsA_get xs i x hi
    have e1 := hh.cells (g := g) rfl _ _ hc.1
    have e2 := hh.cells (g := g) rfl _ _ hc.2
    rw [Addr.add_lit] at e1 e2
    rw [Nat.zero_add] at *
    exact ⟨e1, by simpa using e2⟩

/-- where each stands in memory: for the walk's rounds -/
theorem get_lt {xs : List Atr} {k : Nat} (h : k < xs.length) : ∃ x, xs[k]? = some x := ⟨_, List.getElem?_eq_getElem h⟩

instance : Inhabited Atr := ⟨(⟨#[]⟩, ⟨#[]⟩)⟩
theorem idxBy_fst (xs : List Atr) (s : ByteArray) : Lib.idxBy (fun _ y => hs s y) (xs.take xs.length) default = fst xs s := by
  by_cases h : pl xs s < xs.length
  · obtain ⟨x, hx, hn⟩ := pl_at h
    rw [fst_hit h, Lib.idxBy_hit (fun _ y => hs s y) xs xs.length (pl xs s) default h (Nat.le_refl _)]
    · rw [List.getElem!_eq_getElem?_getD, hx]; exact hs_iff.2 hn
    · intro j hj
      rw [List.getElem!_eq_getElem?_getD, List.getElem?_eq_getElem (by omega)]
      exact pl_before hj (List.getElem?_eq_getElem (by omega))
  · rw [fst_miss h, Lib.idxBy_miss]
    intro j hj
    have hp := pl_le xs s
    rw [List.getElem!_eq_getElem?_getD, List.getElem?_eq_getElem hj]
    exact pl_before (xs := xs) (s := s) (j := j) (by omega) (List.getElem?_eq_getElem hj)
/-- what Get answers -/
def gotV (o : Option Atr) : Ending := .returned (.tuple #[.string (match o with | some x => x.2 | none => ⟨#[]⟩), .bool o.isSome])
set_option maxHeartbeats 1000000 in
theorem clone_any (xs : List Atr) (A : Option Addr) (cap : Nat) (w : World) (h : RdA w A xs) (hl : xs.length ≤ 1000000) (hA : A = none → xs = []) :
    Calls Try.prog 66 #[.slice A xs.length cap] w fun e w' => ∃ v, e = .returned v ∧ w'.ownsRow w.heap.size 57 2 v xs.length (cellsA xs) ∧ Below w.heap.size w w' := by
  obtain ⟨i0, hi, hz0, hz1, hz2⟩ := info_parts infoAt
  have q : ∀ (w : World) (a : Option Addr) (n c n' c' : Nat), (binOp .eql 51 (.slice a n c) (.slice none n' c')).run Try.prog w = .ok (.bool a.isNone) w := fun w a n c n' c' => Lib.run_eql_slice_nil w _ _ a n c n' c' Try.underlying51
  cases A with
  | none =>
    obtain rfl := hA rfl
    go_enter Try.func66, Try.ntmps66
    go_wp2
    go_ret
    exact ⟨_, rfl, ⟨by simp [cellsA], .inl ⟨rfl, rfl⟩⟩, Below.refl _ _⟩
  | some ad =>
    have H := Lib.hid (show ∀ (j : Nat) (u : Value), (cellsA xs)[j]? = some u → (w.alloc (.cells #[] 57)).cell? (ad.add j) = some u from fun j u hj => Lib.cell?_alloc_some _ (h.cells j u hj))
    clear h hA
    go_enter Try.func66, Try.ntmps66
    go_wp2_with (at_builtin; refine wpList_append_own _ rfl _ _ 51 rfl w.heap.size 57 i0 _ 2 32 Try.underlying51 hi hz0 hz1 hz2 rfl (by decide) _ _ _ rfl (World.ownsRow_made w #[] 0 (Nat.le_refl _) (Nat.zero_le _) (by simp)) ad xs.length cap (cellsA xs) rfl (cellsA_len _) H.out (cellsA_one _) ?qc4 ?qc5 ?qc6 ?_)
    case qc4 => unfold maxLen; omega
    case qc5 => omega
    case qc6 => simp
    intro v' w1 hown hgrow hnil
    go_wp2
    go_ret
    refine ⟨v', rfl, by simpa using hown, ?_⟩
    exact ((Below.refl _ w).alloc (Nat.le_refl _) _).grown hgrow (by simp) (by intro k hk; simp [Value.ownBlock] at hk; omega)

theorem neqA : NeqAt Try.prog 57 (fun x => .agg (encA x).toArray) (fun x y => sm x.1 y.1 && sm x.2 y.2) := by
  refine ⟨fun x y w => ?_, GuardAt.agg _ (by kernel_rfl)⟩
  have u3 := Try.underlying9
  have a3 := Try.isAgg9
  have z3 := Try.sizeOf9
  have hS : Try.prog.underlying 57 = some (.struct (Try.prog.fieldsOf 57)) := by kernel_rfl
  have hp : Try.prog.stoodInHeld 57 = false := by kernel_rfl
  simp only [encA]
  rw [run_neq_struct, show (10000 : Nat) = 9999 + 1 from rfl, run_equalIn_agg w 9999 57 _ _ hS hp]
  simp only [Program.fieldsOf, Try.underlying57]
  go_simp
  cases h1 : sm x.1 y.1 <;> cases h2 : sm x.2 y.2 <;> unfold sm at h1 h2 <;> simp_all

end Go.Proofs.Ytojjdnfkcigdbaa
namespace Go.Proofs.Ytojjdnfkcigdbaa
open Go.RowKit Go.Lib

/-- a node: what it is, its attributes (where they lie), its place, its kids (where they lie) -/
structure Nd where
  kind : Int
  space : Int
  name : ByteArray
  data : ByteArray
  aA : Option Addr
  attrs : List Atr
  ac : Nat
  pub : ByteArray
  sys : ByteArray
  up : Int
  kv : Value
  kids : List Int
  inner : Int
def Nd.cs (n : Nd) : List Value := [.int .i64 n.kind, .int .i64 n.space, .string n.name, .string n.data, .slice n.aA n.attrs.length n.ac, .string n.pub, .string n.sys, .int .i64 n.up, n.kv, .int .i64 n.inner]
def cellsN (ns : List Nd) : List Value := ns.flatMap Nd.cs
theorem cellsN_len (ns : List Nd) : (cellsN ns).length = ns.length * 10 := by
  unfold cellsN
  induction ns with
  | nil => rfl
  | cons x xs ih => rw [List.flatMap_cons, List.length_append, ih]; simp [Nd.cs]; omega
theorem cellsN_snoc (xs ys : List Nd) : cellsN (xs ++ ys) = cellsN xs ++ cellsN ys := by simp [cellsN]
theorem cellsN_get (ns : List Nd) : ∀ (i : Nat) (x : Nd) (j : Nat), ns[i]? = some x → j < 10 → (cellsN ns)[i * 10 + j]? = x.cs[j]? := by
  induction ns with
  | nil => intro i x j h; simp at h
  | cons y ns ih =>
    intro i x j h hj
    have hc : cellsN (y :: ns) = y.cs ++ cellsN ns := rfl
    have hl : y.cs.length = 10 := rfl
    rw [hc]
    cases i with
    | zero =>
      simp at h
      subst h
      rw [List.getElem?_append_left (by omega)]
      simp
    | succ i =>
      rw [List.getElem?_append_right (by omega), hl, show (i + 1) * 10 + j - 10 = i * 10 + j by omega]
      exact ih i x j (by simpa using h) hj
/-- a node's attributes, as a value -/
def Nd.av (x : Nd) : Value := .slice x.aA x.attrs.length x.ac
/-- a tree in memory: its block D, its row of nodes, each node's kids and attributes in rows of their own -/
structure DocM (base D : Nat) (v : Value) (qk : Bool) (ns : List Nd) (W : World) : Prop where
  hd : W.heap[D]? = some (.cells #[v, .bool qk] 49 (0, 0))
  row : W.ownsRow base 53 10 v ns.length (cellsN ns)
  kids : ∀ (i : Nat) (x : Nd), ns[i]? = some x → W.ownsRow base 3 1 x.kv x.kids.length (x.kids.map (Value.int .i64))
  attrs : ∀ (i : Nat) (x : Nd), ns[i]? = some x → W.ownsRow base 57 2 x.av x.attrs.length (cellsA x.attrs)
  apart : ∀ (i j : Nat) (x y : Nd) (g : Nat), ns[i]? = some x → ns[j]? = some y → x.kv.ownBlock = some g → y.kv.ownBlock = some g → i = j
  ge : base ≤ D
/-- the blocks of a tree -/
def DB (D : Nat) (v : Value) (ns : List Nd) (k : Nat) : Prop := k = D ∨ v.ownBlock = some k ∨ ∃ (i : Nat) (x : Nd), ns[i]? = some x ∧ (x.kv.ownBlock = some k ∨ x.av.ownBlock = some k)
section
variable {base D : Nat} {v : Value} {qk : Bool} {ns : List Nd} {W W' : World}
theorem DocM.lt (h : DocM base D v qk ns W) : D < W.heap.size := (Array.getElem?_eq_some_iff.1 h.hd).1
theorem DocM.cells (h : DocM base D v qk ns W) : W.cell? ⟨D, 0, none⟩ = some v ∧ W.cell? ⟨D, 1, none⟩ = some (.bool qk) ∧ W.frozen? ⟨D, 0, none⟩ = false := by
  refine ⟨?_, ?_, ?_⟩
  · rw [cell_of_row _ _ _ _ _ _ h.hd]; rfl
  · rw [cell_of_row _ _ _ _ _ _ h.hd]; rfl
  · simp [World.frozen?, h.hd]
/-- the row's value, and where it lies -/
theorem DocM.sl (h : DocM base D v qk ns W) : ∃ A cap, v = .slice A ns.length cap ∧ ns.length ≤ cap ∧ cap ≤ maxLen ∧ (0 < ns.length → ∃ g, A = some ⟨g, 0, none⟩ ∧ base ≤ g ∧ g < W.heap.size) := by
  rcases h.row.2 with ⟨h1, h0⟩ | ⟨g, cap, cur, h1, hb, hg, hn, hm, _⟩
  · exact ⟨none, 0, by rw [h1, h0], by omega, Nat.zero_le _, fun hp => by omega⟩
  · exact ⟨_, cap, h1, hn, hm, fun _ => ⟨g, rfl, hb, (Array.getElem?_eq_some_iff.1 hg).1⟩⟩
/-- one field of one node -/
theorem DocM.cell {g cap i j : Nat} {x : Nd} (h : DocM base D (.slice (some ⟨g, 0, none⟩) ns.length cap) qk ns W) (hx : ns[i]? = some x) (hj : j < 10) : W.cell? ⟨g, i * 10 + j, none⟩ = x.cs[j]? := by
  have hi := (List.getElem?_eq_some_iff.1 hx).1
  rw [h.row.cellAt (i * 10 + j) (by omega), cellsN_get ns i x j hx hj]
theorem DocM.keep {S : Nat → Prop} (h : DocM base D v qk ns W) (hf : Frm S W W') (hS : ∀ k, DB D v ns k → ¬ S k) : DocM base D v qk ns W' :=
  ⟨(hf.block D h.lt (hS D (.inl rfl))).trans h.hd, hf.own h.row (fun k e => hS k (.inr (.inl e))), fun i x hx => hf.own (h.kids i x hx) (fun k e => hS k (.inr (.inr ⟨i, x, hx, .inl e⟩))),
    fun i x hx => hf.own (h.attrs i x hx) (fun k e => hS k (.inr (.inr ⟨i, x, hx, .inr e⟩))), h.apart, h.ge⟩
theorem DocM.below (h : DocM base D v qk ns W) (hb : Below W.heap.size W W') : DocM base D v qk ns W' := h.keep (S := fun _ => False) (Frm.below hb) (fun _ _ h => h)
theorem DocM.in_ (h : DocM base D v qk ns W) : ∀ k, DB D v ns k → base ≤ k ∧ k < W.heap.size := by
  rintro k (rfl | e | ⟨i, x, hx, e | e⟩)
  · exact ⟨h.ge, h.lt⟩
  · exact h.row.lt k e
  · exact (h.kids i x hx).lt k e
  · exact (h.attrs i x hx).lt k e
theorem DocM.mono {base' : Nat} (h : DocM base D v qk ns W) (hb : base' ≤ base) : DocM base' D v qk ns W :=
  have m : ∀ {t s n : Nat} {u : Value} {vs : List Value}, W.ownsRow base t s u n vs → W.ownsRow base' t s u n vs := fun h => ⟨h.1, by
    rcases h.2 with h2 | ⟨g, cap, xs, h3, h4, h5⟩
    · exact .inl h2
    · exact .inr ⟨g, cap, xs, h3, Nat.le_trans hb h4, h5⟩⟩
  ⟨h.hd, m h.row, fun i x hx => m (h.kids i x hx), fun i x hx => m (h.attrs i x hx), h.apart, Nat.le_trans hb h.ge⟩
/-- two rows of unlike elements lie in unlike blocks -/
theorem rows_neN {b1 b2 s1 s2 n1 n2 : Nat} {e1 e2 : TypeId} {v1 v2 : Value} {xs ys : List Value} (h1 : W.ownsRow b1 e1 s1 v1 n1 xs) (h2 : W.ownsRow b2 e2 s2 v2 n2 ys) (he : e1 ≠ e2) : ∀ k, v1.ownBlock = some k → v2.ownBlock ≠ some k := by
  intro k ha hb
  rcases h1.2 with ⟨rfl, _⟩ | ⟨g, cap, cur, rfl, _, hg, _⟩
  · cases ha
  rcases h2.2 with ⟨rfl, _⟩ | ⟨g', cap', cur', rfl, _, hg', _⟩
  · cases hb
  simp [Value.ownBlock] at ha hb
  subst ha
  subst hb
  rw [hg] at hg'
  injection hg' with this
  injection this with _ this
  exact he this
theorem row_neD {b1 s1 n1 g : Nat} {e1 t : TypeId} {v1 : Value} {xs : List Value} {cs : Array Value} (h1 : W.ownsRow b1 e1 s1 v1 n1 xs) (hg0 : W.heap[g]? = some (.cells cs t (0, 0))) (he : e1 ≠ t) : v1.ownBlock ≠ some g := by
  intro ha
  rcases h1.2 with ⟨rfl, _⟩ | ⟨g', cap, cur, rfl, _, hg, _⟩
  · cases ha
  simp [Value.ownBlock] at ha
  subst ha
  rw [hg0] at hg
  injection hg with this
  injection this with _ this
  exact he this.symm
/-- a node's attributes, as they read -/
theorem DocM.atr {i : Nat} {x : Nd} (h : DocM base D v qk ns W) (hx : ns[i]? = some x) : RdA W x.aA x.attrs ∧ (x.aA = none → x.attrs = [] ∧ x.ac = 0) ∧ x.attrs.length ≤ x.ac ∧ x.ac ≤ maxLen := by
  have ho := h.attrs i x hx
  obtain ⟨A, cap, e1, hl, hc, hn, hr⟩ := RdA.own ho
  unfold Nd.av at e1
  injection e1 with e1 e2 e3
  subst e1 e3
  refine ⟨hr, fun e => ⟨?_, hn e⟩, hc, ?_⟩
  · rw [hn e] at hc
    exact List.eq_nil_of_length_eq_zero (by omega)
  · rcases ho.2 with ⟨h1, h0⟩ | ⟨g, cap, cur, h1, hb, hg, hn, hm, _⟩
    · unfold Nd.av at h1
      injection h1 with _ _ h3
      omega
    · unfold Nd.av at h1
      injection h1 with _ _ h3
      omega
end
end Go.Proofs.Ytojjdnfkcigdbaa
namespace Go.Proofs.Ytojjdnfkcigdbaa
open Go.RowKit Go.Shelf Go.Lib
attribute [local go_sem] Oper.semAt_some

/-- a node, as the law keeps it, and where its kids lie -/
structure Ow where
  pl : Pl
  kv : Value
def Ow.cs (o : Ow) : List Value := [.int .i64 o.pl.kind, .string o.pl.name, .string o.pl.data, .int .i64 o.pl.up, o.kv, .int .i64 o.pl.inner]
def cellsO (os : List Ow) : List Value := os.flatMap Ow.cs
theorem cellsO_len (os : List Ow) : (cellsO os).length = os.length * 6 := by
  unfold cellsO
  induction os with
  | nil => rfl
  | cons x xs ih => rw [List.flatMap_cons, List.length_append, ih]; simp [Ow.cs]; omega
theorem cellsO_snoc (xs ys : List Ow) : cellsO (xs ++ ys) = cellsO xs ++ cellsO ys := by simp [cellsO]
theorem cellsO_get (os : List Ow) : ∀ (i : Nat) (x : Ow) (j : Nat), os[i]? = some x → j < 6 → (cellsO os)[i * 6 + j]? = x.cs[j]? := by
  induction os with
  | nil => intro i x j h; simp at h
  | cons y os ih =>
    intro i x j h hj
    have hc : cellsO (y :: os) = y.cs ++ cellsO os := rfl
    have hl : y.cs.length = 6 := rfl
    cases i with
    | zero =>
      simp at h
      subst h
      rw [hc, List.getElem?_append_left (by omega), Nat.zero_mul, Nat.zero_add]
    | succ i =>
      rw [hc, List.getElem?_append_right (by omega), hl, show (i + 1) * 6 + j - 6 = i * 6 + j by omega]
      exact ih i x j (by simpa using h) hj
theorem cellsO_set : ∀ (os : List Ow) (i j : Nat) (x x' : Ow) (u : Value), os[i]? = some x → j < 6 → x'.cs = x.cs.set j u → cellsO (os.set i x') = (cellsO os).set (i * 6 + j) u
  | [], i, j, x, x', u, h, _, _ => by simp at h
  | y :: os, 0, j, x, x', u, h, hj, hc => by
    simp at h
    subst h
    show x'.cs ++ cellsO os = (y.cs ++ cellsO os).set (0 * 6 + j) u
    have hl : y.cs.length = 6 := rfl
    rw [hc, Nat.zero_mul, Nat.zero_add, List.set_append_left _ _ (by omega)]
  | y :: os, i + 1, j, x, x', u, h, hj, hc => by
    show y.cs ++ cellsO (os.set i x') = (y.cs ++ cellsO os).set ((i + 1) * 6 + j) u
    have hl : y.cs.length = 6 := rfl
    rw [cellsO_set os i j x x' u (by simpa using h) hj hc, List.set_append_right _ _ (by omega), hl, show (i + 1) * 6 + j - 6 = i * 6 + j by omega]
/-- the law's own list in memory: a row of nodes, each node's kids in rows that are only read -/
structure OwM (base : Nat) (v : Value) (os : List Ow) (W : World) : Prop where
  row : W.ownsRow base 39 6 v os.length (cellsO os)
  kids : ∀ (i : Nat) (x : Ow), os[i]? = some x → W.ownsRow base 3 1 x.kv x.pl.kids.length (x.pl.kids.map (Value.int .i64))
def OB (v : Value) (os : List Ow) (k : Nat) : Prop := v.ownBlock = some k ∨ ∃ (i : Nat) (x : Ow), os[i]? = some x ∧ x.kv.ownBlock = some k
section
variable {base : Nat} {v : Value} {os : List Ow} {W W' : World}
theorem OwM.sl (h : OwM base v os W) : ∃ A cap, v = .slice A os.length cap ∧ os.length ≤ cap ∧ cap ≤ maxLen ∧ (0 < os.length → ∃ g, A = some ⟨g, 0, none⟩ ∧ base ≤ g ∧ g < W.heap.size) := by
  rcases h.row.2 with ⟨h1, h0⟩ | ⟨g, cap, cur, h1, hb, hg, hn, hm, _⟩
  · exact ⟨none, 0, by rw [h1, h0], by omega, Nat.zero_le _, fun hp => by omega⟩
  · exact ⟨_, cap, h1, hn, hm, fun _ => ⟨g, rfl, hb, (Array.getElem?_eq_some_iff.1 hg).1⟩⟩
theorem OwM.cell {g cap i j : Nat} {x : Ow} (h : OwM base (.slice (some ⟨g, 0, none⟩) os.length cap) os W) (hx : os[i]? = some x) (hj : j < 6) : W.cell? ⟨g, i * 6 + j, none⟩ = x.cs[j]? := by
  have hi := (List.getElem?_eq_some_iff.1 hx).1
  rw [h.row.cellAt (i * 6 + j) (by omega), cellsO_get os i x j hx hj]
theorem OwM.keep {S : Nat → Prop} (h : OwM base v os W) (hf : Frm S W W') (hS : ∀ k, OB v os k → ¬ S k) : OwM base v os W' :=
  ⟨hf.own h.row (fun k e => hS k (.inl e)), fun i x hx => hf.own (h.kids i x hx) (fun k e => hS k (.inr ⟨i, x, hx, e⟩))⟩
theorem OwM.below (h : OwM base v os W) (hb : Below W.heap.size W W') : OwM base v os W' := h.keep (S := fun _ => False) (Frm.below hb) (fun _ _ h => h)
theorem OwM.in_ (h : OwM base v os W) : ∀ k, OB v os k → base ≤ k ∧ k < W.heap.size := by
  rintro k (e | ⟨i, x, hx, e⟩)
  · exact h.row.lt k e
  · exact (h.kids i x hx).lt k e
theorem ow_len {ps : List Pl} (hp : os.map Ow.pl = ps) : os.length = ps.length := by rw [← hp, List.length_map]
theorem ow_get {ps : List Pl} (hp : os.map Ow.pl = ps) {i : Nat} {x : Pl} (hx : ps[i]? = some x) : ∃ o, os[i]? = some o ∧ o.pl = x := by
  rw [← hp, List.getElem?_map] at hx
  cases ho : os[i]? with
  | none => rw [ho] at hx; cases hx
  | some o => rw [ho] at hx; exact ⟨o, rfl, Option.some.inj hx⟩
/-- how far it is up -/
def hgtF (f : Int → Int) : Nat → Int → Nat
  | 0, _ => 0
  | k + 1, n => if n < 0 then 0 else hgtF f k (f n) + 1
theorem Path.hgt {f : Int → Int} {n : Int} {l : List Int} (h : Path f n l) : ∀ k, l.length ≤ k → hgtF f k n = l.length := by
  induction h with
  | nil => intro k _; cases k <;> simp [hgtF]
  | @cons n l h0 hp ih =>
    intro k hk
    cases k with
    | zero => simp at hk
    | succ k =>
      unfold hgtF
      rw [if_neg (by omega), ih k (by simpa using hk)]
      rfl
set_option maxHeartbeats 2000000 in
theorem beneath_any (a n : Int) (W : World) (h : OwM base v os W) (ht : Tr (os.map Ow.pl)) (hl : os.length ≤ 1000000) (h0 : -1 ≤ n) (hn : n < os.length) :
    Calls Try.prog 76 #[v, .int .i64 a, .int .i64 n] W fun e W' => e = .returned (.bool (ben (os.map Ow.pl) a n)) ∧ W' = W := by
  obtain ⟨A, cap, rfl, hle, hmx, hgv⟩ := h.sl
  obtain ⟨B, hB⟩ : ∃ B, ben (os.map Ow.pl) a n = B := ⟨_, rfl⟩
  obtain ⟨l, hpl, hll⟩ := ht.path (n := n) (by omega) (by rw [List.length_map]; omega)
  have hB2 : decide (a ∈ l) = B := by rw [← hB]; exact (hpl.bn _ hll).symm
  rw [hB]
  have H := Lib.hid h
  have HT := Lib.hid ht
  have HG := Lib.hid hgv
  unfold maxLen at hmx
  clear h ht hB hgv hll
  have HP := Lib.hid hpl
  have HB2 := Lib.hid hB2
  clear hpl hB2
  go_enter Try.func76, Try.ntmps76
  go_wp2
  go_loop [2] (fun nv => ∃ (m : Int) (l : List Int), nv = .int .i64 m ∧ -1 ≤ m ∧ m < os.length ∧ Hid (Path (abv (os.map Ow.pl)) m l) ∧ Hid (decide (a ∈ l) = B)) (fun nv => hgtF (abv (os.map Ow.pl)) os.length (RowKit.intOf nv))
  case atStart => exact ⟨n, l, rfl, h0, hn, HP, HB2⟩
  case round =>
    obtain ⟨m, l, rfl, hm0, hm1, HP, HB⟩ := hrel
    by_cases hneg : m < 0
    · have d0 : decide ((0 : Int) ≤ m) = false := decide_eq_false (by omega)
      have hb : B = false := by
        rw [← HB.out]
        have := HP.out
        cases this with
        | nil => simp
        | cons h _ => omega
      subst hb
      clear hneg hm0
      go_wp2
      go_ret
      exact ⟨rfl, rfl⟩
    · obtain ⟨i, rfl⟩ : ∃ i : Nat, m = i := ⟨m.toNat, by omega⟩
      obtain ⟨x, hx⟩ : ∃ x, os[i]? = some x := ⟨_, List.getElem?_eq_getElem (by omega)⟩
      have hx' : (os.map Ow.pl)[i]? = some x.pl := by rw [List.getElem?_map, hx]; rfl
      have d0 : decide ((0 : Int) ≤ (i : Int)) = true := decide_eq_true (by omega)
      obtain ⟨g, rfl, _, _⟩ := HG.out (by omega)
      have hil : i < os.length := by omega
      have c3 : W.cell? ⟨g, i * 6 + 3, none⟩ = some (.int .i64 x.pl.up) := H.out.cell hx (show 3 < 6 by omega)
      obtain ⟨l', hle, hpl', hb'⟩ : ∃ l', l = (i : Int) :: l' ∧ Path (abv (os.map Ow.pl)) (abv (os.map Ow.pl) i) l' ∧ True := by
        have := HP.out
        cases this with
        | cons h h2 => exact ⟨_, rfl, h2, trivial⟩
      have hlen : l.length ≤ os.length := by
        have := pigeon _ l HP.out.nodup (HT.out.path_in HP.out (by rw [List.length_map]; omega))
        rw [List.length_map] at this
        exact this
      have hh1 : hgtF (abv (os.map Ow.pl)) os.length (i : Int) = l.length := HP.out.hgt _ hlen
      have hh2 : hgtF (abv (os.map Ow.pl)) os.length (abv (os.map Ow.pl) i) = l'.length := hpl'.hgt _ (by rw [hle] at hlen; simp at hlen; omega)
      have HH : Hid (hgtF (abv (os.map Ow.pl)) os.length (abv (os.map Ow.pl) i) < hgtF (abv (os.map Ow.pl)) os.length (i : Int)) := Lib.hid (by rw [hh1, hh2, hle]; simp)
      have hai := HT.out.abv_in (n := (i : Int))
      rw [List.length_map] at hai
      by_cases hia : (i : Int) = a
      · have tx : ((i : Int) == a) = true := by rw [beq_iff_eq]; exact hia
        have hb : B = true := by rw [← HB.out, hle, hia]; simp
        subst hb
        clear hia hneg hm0 hh1 hh2 hlen hpl' hb' hle hx' hx hai
        go_wp2
        go_ret
        exact ⟨rfl, rfl⟩
      · have tx : ((i : Int) == a) = false := by rw [beq_eq_false_iff_ne]; exact hia
        have HB3 : Hid (decide (a ∈ l') = B) := Lib.hid (by
          rw [← HB.out, hle]
          have : (a ∈ (i : Int) :: l') ↔ a ∈ l' := by
            rw [List.mem_cons]
            exact ⟨fun h => h.resolve_left (fun h => hia h.symm), .inr⟩
          simp only [this])
        have HP3 := Lib.hid hpl'
        have HX := Lib.hid hx
        have HAI := Lib.hid hai
        have hab : abv (os.map Ow.pl) (i : Int) = if x.pl.up ≠ -1 then x.pl.up else if pAt (os.map Ow.pl) ((i : Int) - 1) Pl.inner (-1) = (i : Int) then (i : Int) - 1 else -1 := by
          unfold abv
          rw [if_neg (by omega), pAt_some hx']
        have HAB := Lib.hid hab
        have HUP := Lib.hid (HT.out.up i _ hx')
        obtain ⟨u, hu⟩ : ∃ u, x.pl.up = u := ⟨_, rfl⟩
        rw [hu] at c3 HAB HUP
        clear hia hneg hm0 hh1 hh2 hlen hpl' hb' hle hx' hx hai hab hu
        by_cases hu1 : u = -1
        · subst hu1
          have d1 : decide ((-1 : Int) < 0) = true := by decide
          rw [if_neg (by omega)] at HAB
          have HIN := Lib.hid HT.out.inn
          go_wp2
          go_loop [7, 23] (fun xv jv => ∃ (y : Int) (j : Nat), xv = .int .i64 y ∧ jv = .int .i64 j ∧ j ≤ os.length ∧ Hid (y = if pAt (os.map Ow.pl) ((i : Int) - 1) Pl.inner (-1) = (i : Int) ∧ i ≤ j then (i : Int) - 1 else -1)) (fun _ jv => os.length - (RowKit.intOf jv).toNat)
          case atStart => exact ⟨-1, 0, rfl, rfl, Nat.zero_le _, Lib.hid (by
            rw [if_neg]
            rintro ⟨h, h0⟩
            have : i = 0 := by omega
            subst this
            rw [pAt_neg (by omega)] at h
            omega)⟩
          case round =>
            obtain ⟨y, j, rfl, rfl, hj, HY⟩ := hrel
            by_cases hjl : j < os.length
            · have dj : decide ((j : Int) < (os.length : Int)) = true := decide_eq_true (by omega)
              obtain ⟨z, hz⟩ : ∃ z, os[j]? = some z := ⟨_, List.getElem?_eq_getElem hjl⟩
              have c5 : W.cell? ⟨g, j * 6 + 5, none⟩ = some (.int .i64 z.pl.inner) := H.out.cell hz (show 5 < 6 by omega)
              have hz' : (os.map Ow.pl)[j]? = some z.pl := by rw [List.getElem?_map, hz]; rfl
              have hzi := HIN.out j _ hz'
              have hpz : pAt (os.map Ow.pl) (j : Int) Pl.inner (-1) = z.pl.inner := pAt_some hz'
              by_cases hq : z.pl.inner = (i : Int)
              · have tz : (z.pl.inner == (i : Int)) = true := by rw [beq_iff_eq]; exact hq
                have hji : i = j + 1 := by rcases hzi with h | ⟨h, _⟩ <;> omega
                have HY2 : Hid ((j : Int) = if pAt (os.map Ow.pl) ((i : Int) - 1) Pl.inner (-1) = (i : Int) ∧ i ≤ j + 1 then (i : Int) - 1 else -1) := Lib.hid (by
                  rw [if_pos ⟨by rw [show (i : Int) - 1 = (j : Int) by omega, hpz]; exact hq, by omega⟩]
                  omega)
                clear hq hji hzi hpz hz' hz
                go_wp2
                go_round
                case rel => exact ⟨(j : Int), j + 1, rfl, by go_num, by omega, HY2⟩
                case measure => simp [RowKit.intOf]; omega
              · have tz : (z.pl.inner == (i : Int)) = false := by rw [beq_eq_false_iff_ne]; exact hq
                have HY2 : Hid (y = if pAt (os.map Ow.pl) ((i : Int) - 1) Pl.inner (-1) = (i : Int) ∧ i ≤ j + 1 then (i : Int) - 1 else -1) := Lib.hid (by
                  have := HY.out
                  by_cases hij : i = j + 1
                  · rw [if_neg (by rintro ⟨_, h⟩; omega)] at this
                    rw [if_neg]
                    · exact this
                    · rintro ⟨h, _⟩
                      rw [show (i : Int) - 1 = (j : Int) by omega, hpz] at h
                      exact hq h
                  · have e : (i ≤ j + 1) = (i ≤ j) := by apply propext; omega
                    simp only [e]
                    exact this)
                clear hq hzi hpz hz' hz
                go_wp2
                go_round
                case rel => exact ⟨y, j + 1, rfl, by go_num, by omega, HY2⟩
                case measure => simp [RowKit.intOf]; omega
            · obtain rfl : j = os.length := by omega
              have dj : decide ((os.length : Int) < (os.length : Int)) = false := decide_eq_false (by omega)
              have hy : y = abv (os.map Ow.pl) (i : Int) := by
                rw [HAB.out, HY.out]
                have : ((pAt (os.map Ow.pl) ((i : Int) - 1) Pl.inner (-1) = (i : Int)) ∧ i ≤ os.length) = (pAt (os.map Ow.pl) ((i : Int) - 1) Pl.inner (-1) = (i : Int)) := propext ⟨fun h => h.1, fun h => ⟨h, by omega⟩⟩
                simp only [this]
              rw [← hy] at HP3 HH HAI
              clear hy
              go_wp2
              go_round
              case rel => exact ⟨y, l', rfl, by rcases HAI.out with h | h <;> omega, by rcases HAI.out with h | h <;> omega, HP3, HB3⟩
              case measure => exact HH.out
        · have d1 : decide (u < 0) = false := decide_eq_false (by rcases HUP.out with h | ⟨j, y, h, _⟩ <;> omega)
          have hbu : abv (os.map Ow.pl) (i : Int) = u := by rw [HAB.out, if_pos hu1]
          rw [hbu] at HP3 HH HAI
          clear hbu hu1
          go_wp2
          go_round
          case rel => exact ⟨u, l', rfl, by rcases HAI.out with h | h <;> omega, by rcases HAI.out with h | h <;> omega, HP3, HB3⟩
          case measure => exact HH.out
end
end Go.Proofs.Ytojjdnfkcigdbaa
namespace Go.Proofs.Ytojjdnfkcigdbaa
open Go.RowKit Go.Lib

section
variable {base D : Nat} {v : Value} {qk : Bool} {ns : List Nd}
theorem size_any (W : World) (h : DocM base D v qk ns W) : Calls Try.prog 47 #[.pointer (some ⟨D, 0, none⟩)] W fun e W' => e = .returned (.int .i64 ns.length) ∧ W' = W := by
  obtain ⟨A, cap, rfl, _, _, _⟩ := h.sl
  have c0 := h.cells.1
  clear h
  go_enter Try.func47, Try.ntmps47
  go_wp2
  go_ret
  exact ⟨rfl, rfl⟩
/-- whether there is a node of a number -/
def inN (ns : List Nd) (n : Int) : Bool := decide (0 ≤ n) && decide (n < ns.length)
theorem has_any (n : Int) (W : World) (h : DocM base D v qk ns W) : Calls Try.prog 43 #[.pointer (some ⟨D, 0, none⟩), .int .i64 n] W fun e W' => e = .returned (.bool (inN ns n)) ∧ W' = W := by
  have KS := Lib.hid (size_any W h)
  clear h
  unfold inN
  by_cases h0 : 0 ≤ n
  · have d0 : decide (0 ≤ n) = true := decide_eq_true h0
    rw [d0, Bool.true_and]
    obtain ⟨b, hb⟩ : ∃ b, decide (n < (ns.length : Int)) = b := ⟨_, rfl⟩
    rw [hb]
    go_enter Try.func43, Try.ntmps43
    go_wp2_with fail
    refine KS.out.mono ?_
    rintro e w1 ⟨rfl, rfl⟩
    go_wp2
    go_ret
    exact ⟨rfl, rfl⟩
  · have d0 : decide (0 ≤ n) = false := decide_eq_false h0
    rw [d0, Bool.false_and]
    clear h0
    go_enter Try.func43, Try.ntmps43
    go_wp2
    go_ret
    exact ⟨rfl, rfl⟩
theorem inN_of {i : Nat} {x : Nd} (hx : ns[i]? = some x) : inN ns i = true := by
  have := (List.getElem?_eq_some_iff.1 hx).1
  unfold inN
  rw [decide_eq_true (by omega), decide_eq_true (by omega)]
  rfl
theorem inN_at {n : Int} (h : inN ns n = true) : ∃ (i : Nat) (x : Nd), n = i ∧ ns[i]? = some x := by
  unfold inN at h
  simp only [Bool.and_eq_true, decide_eq_true_eq] at h
  exact ⟨n.toNat, ns[n.toNat]'(by omega), by omega, List.getElem?_eq_getElem (by omega)⟩
theorem kind_none (n : Int) (W : World) (h : DocM base D v qk ns W) (hn : inN ns n = false) : Calls Try.prog 13 #[.pointer (some ⟨D, 0, none⟩), .int .i64 n] W fun e W' => e = .returned (.int .i64 0) ∧ W' = W := by
  have KH := Lib.hid (has_any n W h)
  rw [hn] at KH
  clear h hn
  go_enter Try.func13, Try.ntmps13
  go_wp2_with fail
  refine KH.out.mono ?_
  rintro e w1 ⟨rfl, rfl⟩
  go_wp2
  go_ret
  exact ⟨rfl, rfl⟩
theorem kind_some {i : Nat} {x : Nd} (W : World) (h : DocM base D v qk ns W) (hx : ns[i]? = some x) : Calls Try.prog 13 #[.pointer (some ⟨D, 0, none⟩), .int .i64 i] W fun e W' => e = .returned (.int .i64 x.kind) ∧ W' = W := by
  have KH := Lib.hid (has_any i W h)
  rw [inN_of hx] at KH
  obtain ⟨A, cap, rfl, hle, hmx, hg⟩ := h.sl
  have hi := (List.getElem?_eq_some_iff.1 hx).1
  obtain ⟨g, rfl, _, _⟩ := hg (by omega)
  have c0 := h.cells.1
  have k0 := h.cell hx (show 0 < 10 by omega)
  simp only [Nd.cs, List.getElem?_cons_zero, Nat.add_zero] at k0
  unfold maxLen at hmx
  clear h hx hg
  go_enter Try.func13, Try.ntmps13
  go_wp2_with fail
  refine KH.out.mono ?_
  rintro e w1 ⟨rfl, rfl⟩
  go_wp2
  go_ret
  exact ⟨rfl, rfl⟩
end
end Go.Proofs.Ytojjdnfkcigdbaa
namespace Go.Proofs.Ytojjdnfkcigdbaa
open Go.RowKit Go.Lib

/-- the field's value, or what stands for it where there is no node -/
def atN {β : Type} (ns : List Nd) (n : Int) (f : Nd → β) (d : β) : β := if inN ns n then ((ns[n.toNat]?).map f).getD d else d
theorem atN_none {β : Type} {ns : List Nd} {n : Int} {f : Nd → β} {d : β} (h : inN ns n = false) : atN ns n f d = d := by unfold atN; rw [h]; rfl
theorem atN_some {β : Type} {ns : List Nd} {i : Nat} {x : Nd} {f : Nd → β} {d : β} (h : ns[i]? = some x) : atN ns i f d = f x := by
  unfold atN
  rw [inN_of h, if_pos rfl, Int.toNat_natCast, h]
  rfl
section
variable {base D : Nat} {v : Value} {qk : Bool} {ns : List Nd}
theorem kind_any (n : Int) (W : World) (h : DocM base D v qk ns W) : Calls Try.prog 13 #[.pointer (some ⟨D, 0, none⟩), .int .i64 n] W fun e W' => e = .returned (.int .i64 (atN ns n Nd.kind 0)) ∧ W' = W := by
  cases hn : inN ns n with
  | false => rw [atN_none hn]; exact kind_none n W h hn
  | true =>
    obtain ⟨i, x, rfl, hx⟩ := inN_at hn
    rw [atN_some hx]
    exact kind_some W h hx
theorem up_any (n : Int) (W : World) (h : DocM base D v qk ns W) : Calls Try.prog 14 #[.pointer (some ⟨D, 0, none⟩), .int .i64 n] W fun e W' => e = .returned (.int .i64 (atN ns n Nd.up (-1))) ∧ W' = W := by
  have KH := Lib.hid (has_any n W h)
  cases hn : inN ns n with
  | false =>
    rw [atN_none hn]
    rw [hn] at KH
    clear h hn
    go_enter Try.func14, Try.ntmps14
    go_wp2_with fail
    refine KH.out.mono ?_
    rintro e w1 ⟨rfl, rfl⟩
    go_wp2
    go_ret
    exact ⟨rfl, rfl⟩
  | true =>
    rw [hn] at KH
    obtain ⟨i, x, rfl, hx⟩ := inN_at hn
    rw [atN_some hx]
    obtain ⟨A, cap, rfl, hle, hmx, hg⟩ := h.sl
    have hi := (List.getElem?_eq_some_iff.1 hx).1
    obtain ⟨g, rfl, _, _⟩ := hg (by omega)
    have c0 := h.cells.1
    have k0 : W.cell? ⟨g, i * 10 + 7, none⟩ = some (.int .i64 x.up) := h.cell hx (show 7 < 10 by omega)
    unfold maxLen at hmx
    clear h hx hg hn
    go_enter Try.func14, Try.ntmps14
    go_wp2_with fail
    refine KH.out.mono ?_
    rintro e w1 ⟨rfl, rfl⟩
    go_wp2
    go_ret
    exact ⟨rfl, rfl⟩
theorem kids_any (n : Int) (W : World) (h : DocM base D v qk ns W) : Calls Try.prog 45 #[.pointer (some ⟨D, 0, none⟩), .int .i64 n] W fun e W' => e = .returned (atN ns n Nd.kv (.slice none 0 0)) ∧ W' = W := by
  have KH := Lib.hid (has_any n W h)
  cases hn : inN ns n with
  | false =>
    rw [atN_none hn]
    rw [hn] at KH
    clear h hn
    go_enter Try.func45, Try.ntmps45
    go_wp2_with fail
    refine KH.out.mono ?_
    rintro e w1 ⟨rfl, rfl⟩
    go_wp2
    go_ret
    exact ⟨rfl, rfl⟩
  | true =>
    rw [hn] at KH
    obtain ⟨i, x, rfl, hx⟩ := inN_at hn
    rw [atN_some hx]
    obtain ⟨A, cap, rfl, hle, hmx, hg⟩ := h.sl
    have hi := (List.getElem?_eq_some_iff.1 hx).1
    obtain ⟨g, rfl, _, _⟩ := hg (by omega)
    have c0 := h.cells.1
    have k0 : W.cell? ⟨g, i * 10 + 8, none⟩ = some x.kv := h.cell hx (show 8 < 10 by omega)
    unfold maxLen at hmx
    clear h hx hg hn
    go_enter Try.func45, Try.ntmps45
    go_wp2_with fail
    refine KH.out.mono ?_
    rintro e w1 ⟨rfl, rfl⟩
    go_wp2
    go_ret
    exact ⟨rfl, rfl⟩
/-- the node beneath which a template's contents stand -/
def innN (ns : List Nd) (n : Int) : Int := atN ns n (fun x => if x.inner ≤ 0 then -1 else x.inner) (-1)
theorem inner_any (n : Int) (W : World) (h : DocM base D v qk ns W) : Calls Try.prog 55 #[.pointer (some ⟨D, 0, none⟩), .int .i64 n] W fun e W' => e = .returned (.int .i64 (innN ns n)) ∧ W' = W := by
  have KH := Lib.hid (has_any n W h)
  unfold innN
  cases hn : inN ns n with
  | false =>
    rw [atN_none hn]
    rw [hn] at KH
    clear h hn
    go_enter Try.func55, Try.ntmps55
    go_wp2_with fail
    refine KH.out.mono ?_
    rintro e w1 ⟨rfl, rfl⟩
    go_wp2
    go_ret
    exact ⟨rfl, rfl⟩
  | true =>
    rw [hn] at KH
    obtain ⟨i, x, rfl, hx⟩ := inN_at hn
    rw [atN_some hx]
    obtain ⟨A, cap, rfl, hle, hmx, hg⟩ := h.sl
    have hi := (List.getElem?_eq_some_iff.1 hx).1
    obtain ⟨g, rfl, _, _⟩ := hg (by omega)
    have c0 := h.cells.1
    have k0 : W.cell? ⟨g, i * 10 + 9, none⟩ = some (.int .i64 x.inner) := h.cell hx (show 9 < 10 by omega)
    unfold maxLen at hmx
    clear h hx hg hn
    by_cases hi0 : x.inner ≤ 0
    · have d0 : decide (x.inner ≤ 0) = true := decide_eq_true hi0
      rw [if_pos hi0]
      clear hi0
      go_enter Try.func55, Try.ntmps55
      go_wp2_with fail
      refine KH.out.mono ?_
      rintro e w1 ⟨rfl, rfl⟩
      go_wp2
      go_ret
      exact ⟨rfl, rfl⟩
    · have d0 : decide (x.inner ≤ 0) = false := decide_eq_false hi0
      rw [if_neg hi0]
      clear hi0
      go_enter Try.func55, Try.ntmps55
      go_wp2_with fail
      refine KH.out.mono ?_
      rintro e w1 ⟨rfl, rfl⟩
      go_wp2
      go_ret
      exact ⟨rfl, rfl⟩
theorem holds_any (n : Int) (W : World) (h : DocM base D v qk ns W) : Calls Try.prog 72 #[.pointer (some ⟨D, 0, none⟩), .int .i64 n] W fun e W' => e = .returned (.bool (atN ns n Nd.kind 0 == 1 || atN ns n Nd.kind 0 == 2)) ∧ W' = W := by
  have KK := Lib.hid (kind_any n W h)
  obtain ⟨k, hk⟩ : ∃ k, atN ns n Nd.kind 0 = k := ⟨_, rfl⟩
  rw [hk] at KK ⊢
  clear h hk
  cases h1 : (k == 1) with
  | true =>
    go_enter Try.func72, Try.ntmps72
    go_wp2_with fail
    refine KK.out.mono ?_
    rintro e w1 ⟨rfl, rfl⟩
    go_wp2
    go_ret
    exact ⟨rfl, rfl⟩
  | false =>
    obtain ⟨b, hb⟩ : ∃ b, (k == 2) = b := ⟨_, rfl⟩
    rw [hb, Bool.false_or]
    go_enter Try.func72, Try.ntmps72
    go_wp2_with fail
    refine KK.out.mono ?_
    rintro e w1 ⟨rfl, rfl⟩
    go_wp2
    go_ret
    exact ⟨rfl, rfl⟩
/-- the node above one, or the template whose contents it is -/
def aboveN (ns : List Nd) (n : Int) : Int := if atN ns n Nd.up (-1) ≠ -1 then atN ns n Nd.up (-1) else if innN ns (wrap64 (n - 1)) = n then wrap64 (n - 1) else -1
end
end Go.Proofs.Ytojjdnfkcigdbaa
