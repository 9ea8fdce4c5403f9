/- Rows of attributes in memory; first, place, Get, Clone, same. Trees in memory: a row of nodes of ten cells each, and each node's own row of kids. Small calls of a tree: size, has, Kind, Up, kids, inner. More small calls of a tree: Up, kids, inner, holds, above. page, New, alone, isTemplate. A tree that gets nodes more, plain. Add. Add of a template. Name. -/
import Derived.Test.YtodlcfhkiilpgaaZA
import Derived.Test.YtodlcfhkiilpgaaKShelf
import Derived.Laws.StructEq
import Derived.Deep.QuietTactic
import Derived.BigQuiet
import Derived.Laws.OwnMore
import Derived.Deep.DeepCutAuto
import Derived.Maps.AppendAt
namespace Go.Proofs.Ytodlcfhkiilpgaa
open Go.RowKit Go.Lib

theorem infoAt : (Try.prog.info? 54).map (fun i => (i.zero, i.size, i.bytes)) = some (some (.agg #[.string ⟨#[]⟩, .string ⟨#[]⟩]), 2, 32) := by kernel_rfl
def encA (x : Atr) : List Value := [.string x.1, .string x.2]
def cellsA (xs : List Atr) : List Value := xs.flatMap encA
theorem cellsA_len (xs : List Atr) : (cellsA xs).length = xs.length * 2 := by
  unfold cellsA
  induction xs with
  | nil => rfl
  | cons x xs ih => rw [List.flatMap_cons, List.length_append, ih]; simp [encA]; omega
theorem cellsA_snoc (xs ys : List Atr) : cellsA (xs ++ ys) = cellsA xs ++ cellsA ys := by simp [cellsA]
theorem cellsA_one (xs : List Atr) : ∀ u ∈ cellsA xs, u.oneCell' = true := by
  intro u hu
  simp only [cellsA, List.mem_flatMap, encA] at hu
  obtain ⟨x, _, hx⟩ := hu
  simp at hx
  rcases hx with rfl | rfl <;> rfl
theorem cellsA_get (xs : List Atr) : ∀ (i : Nat) (x : Atr), xs[i]? = some x → (cellsA xs)[i * 2]? = some (.string x.1) ∧ (cellsA xs)[i * 2 + 1]? = some (.string x.2) := by
  induction xs with
  | nil => intro i x h; simp at h
  | cons y xs ih =>
    intro i x h
    have hc : cellsA (y :: xs) = .string y.1 :: .string y.2 :: cellsA xs := rfl
    rw [hc]
    cases i with
    | zero => simp at h; subst h; exact ⟨rfl, rfl⟩
    | succ i =>
      have := ih i x (by simpa using h)
      rw [show (i + 1) * 2 = i * 2 + 1 + 1 by omega]
      simpa using this
theorem cellsA_inv (xs : List Atr) (j : Nat) (u : Value) (h : (cellsA xs)[j]? = some u) : ∃ i x, xs[i]? = some x ∧ (j = i * 2 ∧ u = .string x.1 ∨ j = i * 2 + 1 ∧ u = .string x.2) := by
  have hl := (List.getElem?_eq_some_iff.1 h).1
  rw [cellsA_len] at hl
  have hi : j / 2 < xs.length := by omega
  refine ⟨j / 2, xs[j / 2], List.getElem?_eq_getElem hi, ?_⟩
  have hg := cellsA_get xs (j / 2) _ (List.getElem?_eq_getElem hi)
  rcases Nat.mod_two_eq_zero_or_one j with e | e
  · left
    have : j / 2 * 2 = j := by omega
    rw [this, h] at hg
    exact ⟨this.symm, Option.some.inj hg.1⟩
  · right
    have : j / 2 * 2 + 1 = j := by omega
    rw [this, h] at hg
    exact ⟨this.symm, Option.some.inj hg.2⟩

/-- the slice at A holds xs -/
def RdA (w : World) (A : Option Addr) (xs : List Atr) : Prop :=
  xs = [] ∨ ∃ b off, A = some ⟨b, off, none⟩ ∧ b < w.heap.size ∧ ∀ (i : Nat) (x : Atr), xs[i]? = some x → w.cell? ⟨b, off + i * 2, none⟩ = some (.string x.1) ∧ w.cell? ⟨b, off + i * 2 + 1, none⟩ = some (.string x.2)
theorem RdA.keep {w w' : World} {A : Option Addr} {xs : List Atr} (h : RdA w A xs) (hs : w.heap.size ≤ w'.heap.size) (hc : ∀ p : Addr, p.block < w.heap.size → w'.cell? p = w.cell? p) : RdA w' A xs := by
  rcases h with h | ⟨b, off, rfl, hb, h⟩
  · exact .inl h
  · exact .inr ⟨b, off, rfl, by omega, fun i x hi => ⟨(hc _ hb).trans (h i x hi).1, (hc _ hb).trans (h i x hi).2⟩⟩
theorem RdA.below {w w' : World} {A : Option Addr} {xs : List Atr} (h : RdA w A xs) (hb : Below w.heap.size w w') : RdA w' A xs :=
  h.keep hb.size fun _ hp => hb.cell hp
theorem RdA.at_ {w : World} {A : Option Addr} {xs : List Atr} {i : Nat} {x : Atr} (h : RdA w A xs) (hx : xs[i]? = some x) : ∃ b off, A = some ⟨b, off, none⟩ ∧ b < w.heap.size ∧ w.cell? ⟨b, off + i * 2, none⟩ = some (.string x.1) ∧ w.cell? ⟨b, off + i * 2 + 1, none⟩ = some (.string x.2) := by
  rcases h with rfl | ⟨b, off, hA, hb, h⟩
  · simp at hx
  · exact ⟨b, off, hA, hb, h i x hx⟩
theorem RdA.cells {w : World} {ad : Addr} {xs : List Atr} (h : RdA w (some ad) xs) : ∀ (j : Nat) (u : Value), (cellsA xs)[j]? = some u → w.cell? (ad.add j) = some u := by
  intro j u hu
  obtain ⟨i, x, hx, hj⟩ := cellsA_inv xs j u hu
  obtain ⟨b, off, hA, _, h1, h2⟩ := h.at_ hx
  obtain rfl : ad = ⟨b, off, none⟩ := by injection hA
  rw [Addr.add_lit]
  rcases hj with ⟨rfl, rfl⟩ | ⟨rfl, rfl⟩
  · exact h1
  · exact h2
theorem RdA.own {w : World} {base : Nat} {e : TypeId} {v : Value} {n : Nat} {xs : List Atr} (h : w.ownsRow base e 2 v n (cellsA xs)) : ∃ A cap, v = .slice A n cap ∧ xs.length = n ∧ n ≤ cap ∧ (A = none → cap = 0) ∧ RdA w A xs := by
  have hl : xs.length = n := by have := h.1; rw [cellsA_len] at this; omega
  subst hl
  have hh := h
  rcases h.2 with ⟨rfl, hn⟩ | ⟨g, cap, cur, rfl, _, hg, hnc, _⟩
  · have hx : xs = [] := List.eq_nil_of_length_eq_zero hn
    subst hx
    exact ⟨none, 0, rfl, rfl, by simp, fun _ => rfl, .inl rfl⟩
  · refine ⟨some ⟨g, 0, none⟩, cap, rfl, rfl, hnc, (fun h => by cases h), .inr ⟨g, 0, rfl, (Array.getElem?_eq_some_iff.1 hg).1, fun i x hi => ?_⟩⟩
    have hc := cellsA_get xs i x hi
    have e1 := hh.cells (g := g) rfl _ _ hc.1
    have e2 := hh.cells (g := g) rfl _ _ hc.2
    rw [Addr.add_lit] at e1 e2
    rw [Nat.zero_add] at *
    exact ⟨e1, by simpa using e2⟩

/-- where each stands in memory: for the walk's rounds -/
theorem get_lt {xs : List Atr} {k : Nat} (h : k < xs.length) : ∃ x, xs[k]? = some x := ⟨_, List.getElem?_eq_getElem h⟩

instance : Inhabited Atr := ⟨(⟨#[]⟩, ⟨#[]⟩)⟩
theorem idxBy_fst (xs : List Atr) (s : ByteArray) : Lib.idxBy (fun _ y => hs s y) (xs.take xs.length) default = fst xs s := by
  by_cases h : pl xs s < xs.length
  · obtain ⟨x, hx, hn⟩ := pl_at h
    rw [fst_hit h, Lib.idxBy_hit (fun _ y => hs s y) xs xs.length (pl xs s) default h (Nat.le_refl _)]
    · rw [List.getElem!_eq_getElem?_getD, hx]; exact hs_iff.2 hn
    · intro j hj
      rw [List.getElem!_eq_getElem?_getD, List.getElem?_eq_getElem (by omega)]
      exact pl_before hj (List.getElem?_eq_getElem (by omega))
  · rw [fst_miss h, Lib.idxBy_miss]
    intro j hj
    have hp := pl_le xs s
    rw [List.getElem!_eq_getElem?_getD, List.getElem?_eq_getElem hj]
    exact pl_before (xs := xs) (s := s) (j := j) (by omega) (List.getElem?_eq_getElem hj)
/-- what Get answers -/
def gotV (o : Option Atr) : Ending := .returned (.tuple #[.string (match o with | some x => x.2 | none => ⟨#[]⟩), .bool o.isSome])
set_option maxHeartbeats 1000000 in
theorem clone_any (xs : List Atr) (A : Option Addr) (cap : Nat) (w : World) (h : RdA w A xs) (hl : xs.length ≤ 1000000) (hA : A = none → xs = []) :
    Calls Try.prog 69 #[.slice A xs.length cap] w fun e w' => ∃ v, e = .returned v ∧ w'.ownsRow w.heap.size 54 2 v xs.length (cellsA xs) ∧ Below w.heap.size w w' := by
  obtain ⟨i0, hi, hz0, hz1, hz2⟩ := info_parts infoAt
  have q : ∀ (w : World) (a : Option Addr) (n c n' c' : Nat), (binOp .eql 26 (.slice a n c) (.slice none n' c')).run Try.prog w = .ok (.bool a.isNone) w := fun w a n c n' c' => Lib.run_eql_slice_nil w _ _ a n c n' c' Try.underlying26
  cases A with
  | none =>
    obtain rfl := hA rfl
    go_enter Try.func69, Try.ntmps69
    go_wp2
    go_ret
    exact ⟨_, rfl, ⟨by simp [cellsA], .inl ⟨rfl, rfl⟩⟩, Below.refl _ _⟩
  | some ad =>
    have H := Lib.hid (show ∀ (j : Nat) (u : Value), (cellsA xs)[j]? = some u → (w.alloc (.cells #[] 54)).cell? (ad.add j) = some u from fun j u hj => Lib.cell?_alloc_some _ (h.cells j u hj))
    clear h hA
    go_enter Try.func69, Try.ntmps69
    go_wp2_with (at_builtin; refine wpList_append_own _ rfl _ _ 26 rfl w.heap.size 54 i0 _ 2 32 Try.underlying26 hi hz0 hz1 hz2 rfl (by decide) _ _ _ rfl (World.ownsRow_made w #[] 0 (Nat.le_refl _) (Nat.zero_le _) (by simp)) ad xs.length cap (cellsA xs) rfl (cellsA_len _) H.out (cellsA_one _) ?qc4 ?qc5 ?qc6 ?_)
    case qc4 => unfold maxLen; omega
    case qc5 => omega
    case qc6 => simp
    intro v' w1 hown hgrow hnil
    go_wp2
    go_ret
    refine ⟨v', rfl, by simpa using hown, ?_⟩
    exact ((Below.refl _ w).alloc (Nat.le_refl _) _).grown hgrow (by simp) (by intro k hk; simp [Value.ownBlock] at hk; omega)

theorem neqA : NeqAt Try.prog 54 (fun x => .agg (encA x).toArray) (fun x y => sm x.1 y.1 && sm x.2 y.2) := by
  refine ⟨fun x y w => ?_, GuardAt.agg _ (by kernel_rfl)⟩
  have u3 := Try.underlying9
  have a3 := Try.isAgg9
  have z3 := Try.sizeOf9
  have hS : Try.prog.underlying 54 = some (.struct (Try.prog.fieldsOf 54)) := by kernel_rfl
  have hp : Try.prog.stoodInHeld 54 = false := by kernel_rfl
  simp only [encA]
  rw [run_neq_struct, show (10000 : Nat) = 9999 + 1 from rfl, run_equalIn_agg w 9999 54 _ _ hS hp]
  simp only [Program.fieldsOf, Try.underlying54]
  go_simp
  cases h1 : sm x.1 y.1 <;> cases h2 : sm x.2 y.2 <;> unfold sm at h1 h2 <;> simp_all

end Go.Proofs.Ytodlcfhkiilpgaa
namespace Go.Proofs.Ytodlcfhkiilpgaa
open Go.RowKit Go.Lib

/-- a node: what it is, its attributes (where they lie), its place, its kids (where they lie) -/
structure Nd where
  kind : Int
  space : Int
  name : ByteArray
  data : ByteArray
  aA : Option Addr
  attrs : List Atr
  ac : Nat
  pub : ByteArray
  sys : ByteArray
  up : Int
  kv : Value
  kids : List Int
  inner : Int
def Nd.cs (n : Nd) : List Value := [.int .i64 n.kind, .int .i64 n.space, .string n.name, .string n.data, .slice n.aA n.attrs.length n.ac, .string n.pub, .string n.sys, .int .i64 n.up, n.kv, .int .i64 n.inner]
def cellsN (ns : List Nd) : List Value := ns.flatMap Nd.cs
theorem cellsN_len (ns : List Nd) : (cellsN ns).length = ns.length * 10 := by
  unfold cellsN
  induction ns with
  | nil => rfl
  | cons x xs ih => rw [List.flatMap_cons, List.length_append, ih]; simp [Nd.cs]; omega
theorem cellsN_snoc (xs ys : List Nd) : cellsN (xs ++ ys) = cellsN xs ++ cellsN ys := by simp [cellsN]
theorem cellsN_get (ns : List Nd) : ∀ (i : Nat) (x : Nd) (j : Nat), ns[i]? = some x → j < 10 → (cellsN ns)[i * 10 + j]? = x.cs[j]? := by
  induction ns with
  | nil => intro i x j h; simp at h
  | cons y ns ih =>
    intro i x j h hj
    have hc : cellsN (y :: ns) = y.cs ++ cellsN ns := rfl
    have hl : y.cs.length = 10 := rfl
    rw [hc]
    cases i with
    | zero =>
      simp at h
      subst h
      rw [List.getElem?_append_left (by omega)]
      simp
    | succ i =>
      rw [List.getElem?_append_right (by omega), hl, show (i + 1) * 10 + j - 10 = i * 10 + j by omega]
      exact ih i x j (by simpa using h) hj
/-- a node's attributes, as a value -/
def Nd.av (x : Nd) : Value := .slice x.aA x.attrs.length x.ac
/-- a tree in memory: its block D, its row of nodes, each node's kids and attributes in rows of their own -/
structure DocM (base D : Nat) (v : Value) (qk : Bool) (ns : List Nd) (W : World) : Prop where
  hd : W.heap[D]? = some (.cells #[v, .bool qk] 42 (0, 0))
  row : W.ownsRow base 29 10 v ns.length (cellsN ns)
  kids : ∀ (i : Nat) (x : Nd), ns[i]? = some x → W.ownsRow base 3 1 x.kv x.kids.length (x.kids.map (Value.int .i64))
  attrs : ∀ (i : Nat) (x : Nd), ns[i]? = some x → W.ownsRow base 54 2 x.av x.attrs.length (cellsA x.attrs)
  apart : ∀ (i j : Nat) (x y : Nd) (g : Nat), ns[i]? = some x → ns[j]? = some y → x.kv.ownBlock = some g → y.kv.ownBlock = some g → i = j
  ge : base ≤ D
/-- the blocks of a tree -/
def DB (D : Nat) (v : Value) (ns : List Nd) (k : Nat) : Prop := k = D ∨ v.ownBlock = some k ∨ ∃ (i : Nat) (x : Nd), ns[i]? = some x ∧ (x.kv.ownBlock = some k ∨ x.av.ownBlock = some k)
section
variable {base D : Nat} {v : Value} {qk : Bool} {ns : List Nd} {W W' : World}
theorem DocM.lt (h : DocM base D v qk ns W) : D < W.heap.size := (Array.getElem?_eq_some_iff.1 h.hd).1
theorem DocM.cells (h : DocM base D v qk ns W) : W.cell? ⟨D, 0, none⟩ = some v ∧ W.cell? ⟨D, 1, none⟩ = some (.bool qk) ∧ W.frozen? ⟨D, 0, none⟩ = false := by
  refine ⟨?_, ?_, ?_⟩
  · rw [cell_of_row _ _ _ _ _ _ h.hd]; rfl
  · rw [cell_of_row _ _ _ _ _ _ h.hd]; rfl
  · simp [World.frozen?, h.hd]
/-- the row's value, and where it lies -/
theorem DocM.sl (h : DocM base D v qk ns W) : ∃ A cap, v = .slice A ns.length cap ∧ ns.length ≤ cap ∧ cap ≤ maxLen ∧ (0 < ns.length → ∃ g, A = some ⟨g, 0, none⟩ ∧ base ≤ g ∧ g < W.heap.size) := by
  rcases h.row.2 with ⟨h1, h0⟩ | ⟨g, cap, cur, h1, hb, hg, hn, hm, _⟩
  · exact ⟨none, 0, by rw [h1, h0], by omega, Nat.zero_le _, fun hp => by omega⟩
  · exact ⟨_, cap, h1, hn, hm, fun _ => ⟨g, rfl, hb, (Array.getElem?_eq_some_iff.1 hg).1⟩⟩
/-- one field of one node -/
theorem DocM.cell {g cap i j : Nat} {x : Nd} (h : DocM base D (.slice (some ⟨g, 0, none⟩) ns.length cap) qk ns W) (hx : ns[i]? = some x) (hj : j < 10) : W.cell? ⟨g, i * 10 + j, none⟩ = x.cs[j]? := by
  have hi := (List.getElem?_eq_some_iff.1 hx).1
  rw [h.row.cellAt (i * 10 + j) (by omega), cellsN_get ns i x j hx hj]
theorem DocM.keep {S : Nat → Prop} (h : DocM base D v qk ns W) (hf : Frm S W W') (hS : ∀ k, DB D v ns k → ¬ S k) : DocM base D v qk ns W' :=
  ⟨(hf.block D h.lt (hS D (.inl rfl))).trans h.hd, hf.own h.row (fun k e => hS k (.inr (.inl e))), fun i x hx => hf.own (h.kids i x hx) (fun k e => hS k (.inr (.inr ⟨i, x, hx, .inl e⟩))),
    fun i x hx => hf.own (h.attrs i x hx) (fun k e => hS k (.inr (.inr ⟨i, x, hx, .inr e⟩))), h.apart, h.ge⟩
theorem DocM.below (h : DocM base D v qk ns W) (hb : Below W.heap.size W W') : DocM base D v qk ns W' := h.keep (S := fun _ => False) (Frm.below hb) (fun _ _ h => h)
theorem DocM.in_ (h : DocM base D v qk ns W) : ∀ k, DB D v ns k → base ≤ k ∧ k < W.heap.size := by
  rintro k (rfl | e | ⟨i, x, hx, e | e⟩)
  · exact ⟨h.ge, h.lt⟩
  · exact h.row.lt k e
  · exact (h.kids i x hx).lt k e
  · exact (h.attrs i x hx).lt k e
theorem DocM.mono {base' : Nat} (h : DocM base D v qk ns W) (hb : base' ≤ base) : DocM base' D v qk ns W :=
  have m : ∀ {t s n : Nat} {u : Value} {vs : List Value}, W.ownsRow base t s u n vs → W.ownsRow base' t s u n vs := fun h => ⟨h.1, by
    rcases h.2 with h2 | ⟨g, cap, xs, h3, h4, h5⟩
    · exact .inl h2
    · exact .inr ⟨g, cap, xs, h3, Nat.le_trans hb h4, h5⟩⟩
  ⟨h.hd, m h.row, fun i x hx => m (h.kids i x hx), fun i x hx => m (h.attrs i x hx), h.apart, Nat.le_trans hb h.ge⟩
/-- two rows of unlike elements lie in unlike blocks -/
theorem rows_neN {b1 b2 s1 s2 n1 n2 : Nat} {e1 e2 : TypeId} {v1 v2 : Value} {xs ys : List Value} (h1 : W.ownsRow b1 e1 s1 v1 n1 xs) (h2 : W.ownsRow b2 e2 s2 v2 n2 ys) (he : e1 ≠ e2) : ∀ k, v1.ownBlock = some k → v2.ownBlock ≠ some k := by
  intro k ha hb
  rcases h1.2 with ⟨rfl, _⟩ | ⟨g, cap, cur, rfl, _, hg, _⟩
  · cases ha
  rcases h2.2 with ⟨rfl, _⟩ | ⟨g', cap', cur', rfl, _, hg', _⟩
  · cases hb
  simp [Value.ownBlock] at ha hb
  subst ha
  subst hb
  rw [hg] at hg'
  injection hg' with this
  injection this with _ this
  exact he this
theorem row_neD {b1 s1 n1 g : Nat} {e1 t : TypeId} {v1 : Value} {xs : List Value} {cs : Array Value} (h1 : W.ownsRow b1 e1 s1 v1 n1 xs) (hg0 : W.heap[g]? = some (.cells cs t (0, 0))) (he : e1 ≠ t) : v1.ownBlock ≠ some g := by
  intro ha
  rcases h1.2 with ⟨rfl, _⟩ | ⟨g', cap, cur, rfl, _, hg, _⟩
  · cases ha
  simp [Value.ownBlock] at ha
  subst ha
  rw [hg0] at hg
  injection hg with this
  injection this with _ this
  exact he this.symm
/-- a node's attributes, as they read -/
theorem DocM.atr {i : Nat} {x : Nd} (h : DocM base D v qk ns W) (hx : ns[i]? = some x) : RdA W x.aA x.attrs ∧ (x.aA = none → x.attrs = [] ∧ x.ac = 0) ∧ x.attrs.length ≤ x.ac ∧ x.ac ≤ maxLen := by
  have ho := h.attrs i x hx
  obtain ⟨A, cap, e1, hl, hc, hn, hr⟩ := RdA.own ho
  unfold Nd.av at e1
  injection e1 with e1 e2 e3
  subst e1 e3
  refine ⟨hr, fun e => ⟨?_, hn e⟩, hc, ?_⟩
  · rw [hn e] at hc
    exact List.eq_nil_of_length_eq_zero (by omega)
  · rcases ho.2 with ⟨h1, h0⟩ | ⟨g, cap, cur, h1, hb, hg, hn, hm, _⟩
    · unfold Nd.av at h1
      injection h1 with _ _ h3
      omega
    · unfold Nd.av at h1
      injection h1 with _ _ h3
      omega
end
end Go.Proofs.Ytodlcfhkiilpgaa
namespace Go.Proofs.Ytodlcfhkiilpgaa
open Go.RowKit Go.Lib

section
variable {base D : Nat} {v : Value} {qk : Bool} {ns : List Nd}
theorem size_any (W : World) (h : DocM base D v qk ns W) : Calls Try.prog 49 #[.pointer (some ⟨D, 0, none⟩)] W fun e W' => e = .returned (.int .i64 ns.length) ∧ W' = W := by
  obtain ⟨A, cap, rfl, _, _, _⟩ := h.sl
  have c0 := h.cells.1
  clear h
  go_enter Try.func49, Try.ntmps49
  go_wp2
  go_ret
  exact ⟨rfl, rfl⟩
/-- whether there is a node of a number -/
def inN (ns : List Nd) (n : Int) : Bool := decide (0 ≤ n) && decide (n < ns.length)
theorem has_any (n : Int) (W : World) (h : DocM base D v qk ns W) : Calls Try.prog 35 #[.pointer (some ⟨D, 0, none⟩), .int .i64 n] W fun e W' => e = .returned (.bool (inN ns n)) ∧ W' = W := by
  have KS := Lib.hid (size_any W h)
  clear h
  unfold inN
  by_cases h0 : 0 ≤ n
  · have d0 : decide (0 ≤ n) = true := decide_eq_true h0
    rw [d0, Bool.true_and]
    obtain ⟨b, hb⟩ : ∃ b, decide (n < (ns.length : Int)) = b := ⟨_, rfl⟩
    rw [hb]
    go_enter Try.func35, Try.ntmps35
    go_wp2_with fail
    refine KS.out.mono ?_
    rintro e w1 ⟨rfl, rfl⟩
    go_wp2
    go_ret
    exact ⟨rfl, rfl⟩
  · have d0 : decide (0 ≤ n) = false := decide_eq_false h0
    rw [d0, Bool.false_and]
    clear h0
    go_enter Try.func35, Try.ntmps35
    go_wp2
    go_ret
    exact ⟨rfl, rfl⟩
theorem inN_of {i : Nat} {x : Nd} (hx : ns[i]? = some x) : inN ns i = true := by
  have := (List.getElem?_eq_some_iff.1 hx).1
  unfold inN
  rw [decide_eq_true (by omega), decide_eq_true (by omega)]
  rfl
theorem inN_at {n : Int} (h : inN ns n = true) : ∃ (i : Nat) (x : Nd), n = i ∧ ns[i]? = some x := by
  unfold inN at h
  simp only [Bool.and_eq_true, decide_eq_true_eq] at h
  exact ⟨n.toNat, ns[n.toNat]'(by omega), by omega, List.getElem?_eq_getElem (by omega)⟩
theorem kind_none (n : Int) (W : World) (h : DocM base D v qk ns W) (hn : inN ns n = false) : Calls Try.prog 11 #[.pointer (some ⟨D, 0, none⟩), .int .i64 n] W fun e W' => e = .returned (.int .i64 0) ∧ W' = W := by
  have KH := Lib.hid (has_any n W h)
  rw [hn] at KH
  clear h hn
  go_enter Try.func11, Try.ntmps11
  go_wp2_with fail
  refine KH.out.mono ?_
  rintro e w1 ⟨rfl, rfl⟩
  go_wp2
  go_ret
  exact ⟨rfl, rfl⟩
theorem kind_some {i : Nat} {x : Nd} (W : World) (h : DocM base D v qk ns W) (hx : ns[i]? = some x) : Calls Try.prog 11 #[.pointer (some ⟨D, 0, none⟩), .int .i64 i] W fun e W' => e = .returned (.int .i64 x.kind) ∧ W' = W := by
  have KH := Lib.hid (has_any i W h)
  rw [inN_of hx] at KH
  obtain ⟨A, cap, rfl, hle, hmx, hg⟩ := h.sl
  have hi := (List.getElem?_eq_some_iff.1 hx).1
  obtain ⟨g, rfl, _, _⟩ := hg (by omega)
  have c0 := h.cells.1
  have k0 := h.cell hx (show 0 < 10 by omega)
  simp only [Nd.cs, List.getElem?_cons_zero, Nat.add_zero] at k0
  unfold maxLen at hmx
  clear h hx hg
  go_enter Try.func11, Try.ntmps11
  go_wp2_with fail
  refine KH.out.mono ?_
  rintro e w1 ⟨rfl, rfl⟩
  go_wp2
  go_ret
  exact ⟨rfl, rfl⟩
end
end Go.Proofs.Ytodlcfhkiilpgaa
namespace Go.Proofs.Ytodlcfhkiilpgaa
open Go.RowKit Go.Lib

/-- the field's value, or what stands for it where there is no node -/
def atN {β : Type} (ns : List Nd) (n : Int) (f : Nd → β) (d : β) : β := if inN ns n then ((ns[n.toNat]?).map f).getD d else d
theorem atN_none {β : Type} {ns : List Nd} {n : Int} {f : Nd → β} {d : β} (h : inN ns n = false) : atN ns n f d = d := by unfold atN; rw [h]; rfl
theorem atN_some {β : Type} {ns : List Nd} {i : Nat} {x : Nd} {f : Nd → β} {d : β} (h : ns[i]? = some x) : atN ns i f d = f x := by
  unfold atN
  rw [inN_of h, if_pos rfl, Int.toNat_natCast, h]
  rfl
section
variable {base D : Nat} {v : Value} {qk : Bool} {ns : List Nd}
theorem kind_any (n : Int) (W : World) (h : DocM base D v qk ns W) : Calls Try.prog 11 #[.pointer (some ⟨D, 0, none⟩), .int .i64 n] W fun e W' => e = .returned (.int .i64 (atN ns n Nd.kind 0)) ∧ W' = W := by
  cases hn : inN ns n with
  | false => rw [atN_none hn]; exact kind_none n W h hn
  | true =>
    obtain ⟨i, x, rfl, hx⟩ := inN_at hn
    rw [atN_some hx]
    exact kind_some W h hx
theorem up_any (n : Int) (W : World) (h : DocM base D v qk ns W) : Calls Try.prog 12 #[.pointer (some ⟨D, 0, none⟩), .int .i64 n] W fun e W' => e = .returned (.int .i64 (atN ns n Nd.up (-1))) ∧ W' = W := by
  have KH := Lib.hid (has_any n W h)
  cases hn : inN ns n with
  | false =>
    rw [atN_none hn]
    rw [hn] at KH
    clear h hn
    go_enter Try.func12, Try.ntmps12
    go_wp2_with fail
    refine KH.out.mono ?_
    rintro e w1 ⟨rfl, rfl⟩
    go_wp2
    go_ret
    exact ⟨rfl, rfl⟩
  | true =>
    rw [hn] at KH
    obtain ⟨i, x, rfl, hx⟩ := inN_at hn
    rw [atN_some hx]
    obtain ⟨A, cap, rfl, hle, hmx, hg⟩ := h.sl
    have hi := (List.getElem?_eq_some_iff.1 hx).1
    obtain ⟨g, rfl, _, _⟩ := hg (by omega)
    have c0 := h.cells.1
    have k0 : W.cell? ⟨g, i * 10 + 7, none⟩ = some (.int .i64 x.up) := h.cell hx (show 7 < 10 by omega)
    unfold maxLen at hmx
    clear h hx hg hn
    go_enter Try.func12, Try.ntmps12
    go_wp2_with fail
    refine KH.out.mono ?_
    rintro e w1 ⟨rfl, rfl⟩
    go_wp2
    go_ret
    exact ⟨rfl, rfl⟩
theorem kids_any (n : Int) (W : World) (h : DocM base D v qk ns W) : Calls Try.prog 46 #[.pointer (some ⟨D, 0, none⟩), .int .i64 n] W fun e W' => e = .returned (atN ns n Nd.kv (.slice none 0 0)) ∧ W' = W := by
  have KH := Lib.hid (has_any n W h)
  cases hn : inN ns n with
  | false =>
    rw [atN_none hn]
    rw [hn] at KH
    clear h hn
    go_enter Try.func46, Try.ntmps46
    go_wp2_with fail
    refine KH.out.mono ?_
    rintro e w1 ⟨rfl, rfl⟩
    go_wp2
    go_ret
    exact ⟨rfl, rfl⟩
  | true =>
    rw [hn] at KH
    obtain ⟨i, x, rfl, hx⟩ := inN_at hn
    rw [atN_some hx]
    obtain ⟨A, cap, rfl, hle, hmx, hg⟩ := h.sl
    have hi := (List.getElem?_eq_some_iff.1 hx).1
    obtain ⟨g, rfl, _, _⟩ := hg (by omega)
    have c0 := h.cells.1
    have k0 : W.cell? ⟨g, i * 10 + 8, none⟩ = some x.kv := h.cell hx (show 8 < 10 by omega)
    unfold maxLen at hmx
    clear h hx hg hn
    go_enter Try.func46, Try.ntmps46
    go_wp2_with fail
    refine KH.out.mono ?_
    rintro e w1 ⟨rfl, rfl⟩
    go_wp2
    go_ret
    exact ⟨rfl, rfl⟩
/-- the node beneath which a template's contents stand -/
def innN (ns : List Nd) (n : Int) : Int := atN ns n (fun x => if x.inner ≤ 0 then -1 else x.inner) (-1)
theorem inner_any (n : Int) (W : World) (h : DocM base D v qk ns W) : Calls Try.prog 44 #[.pointer (some ⟨D, 0, none⟩), .int .i64 n] W fun e W' => e = .returned (.int .i64 (innN ns n)) ∧ W' = W := by
  have KH := Lib.hid (has_any n W h)
  unfold innN
  cases hn : inN ns n with
  | false =>
    rw [atN_none hn]
    rw [hn] at KH
    clear h hn
    go_enter Try.func44, Try.ntmps44
    go_wp2_with fail
    refine KH.out.mono ?_
    rintro e w1 ⟨rfl, rfl⟩
    go_wp2
    go_ret
    exact ⟨rfl, rfl⟩
  | true =>
    rw [hn] at KH
    obtain ⟨i, x, rfl, hx⟩ := inN_at hn
    rw [atN_some hx]
    obtain ⟨A, cap, rfl, hle, hmx, hg⟩ := h.sl
    have hi := (List.getElem?_eq_some_iff.1 hx).1
    obtain ⟨g, rfl, _, _⟩ := hg (by omega)
    have c0 := h.cells.1
    have k0 : W.cell? ⟨g, i * 10 + 9, none⟩ = some (.int .i64 x.inner) := h.cell hx (show 9 < 10 by omega)
    unfold maxLen at hmx
    clear h hx hg hn
    by_cases hi0 : x.inner ≤ 0
    · have d0 : decide (x.inner ≤ 0) = true := decide_eq_true hi0
      rw [if_pos hi0]
      clear hi0
      go_enter Try.func44, Try.ntmps44
      go_wp2_with fail
      refine KH.out.mono ?_
      rintro e w1 ⟨rfl, rfl⟩
      go_wp2
      go_ret
      exact ⟨rfl, rfl⟩
    · have d0 : decide (x.inner ≤ 0) = false := decide_eq_false hi0
      rw [if_neg hi0]
      clear hi0
      go_enter Try.func44, Try.ntmps44
      go_wp2_with fail
      refine KH.out.mono ?_
      rintro e w1 ⟨rfl, rfl⟩
      go_wp2
      go_ret
      exact ⟨rfl, rfl⟩
theorem holds_any (n : Int) (W : World) (h : DocM base D v qk ns W) : Calls Try.prog 39 #[.pointer (some ⟨D, 0, none⟩), .int .i64 n] W fun e W' => e = .returned (.bool (atN ns n Nd.kind 0 == 1 || atN ns n Nd.kind 0 == 2)) ∧ W' = W := by
  have KK := Lib.hid (kind_any n W h)
  obtain ⟨k, hk⟩ : ∃ k, atN ns n Nd.kind 0 = k := ⟨_, rfl⟩
  rw [hk] at KK ⊢
  clear h hk
  cases h1 : (k == 1) with
  | true =>
    go_enter Try.func39, Try.ntmps39
    go_wp2_with fail
    refine KK.out.mono ?_
    rintro e w1 ⟨rfl, rfl⟩
    go_wp2
    go_ret
    exact ⟨rfl, rfl⟩
  | false =>
    obtain ⟨b, hb⟩ : ∃ b, (k == 2) = b := ⟨_, rfl⟩
    rw [hb, Bool.false_or]
    go_enter Try.func39, Try.ntmps39
    go_wp2_with fail
    refine KK.out.mono ?_
    rintro e w1 ⟨rfl, rfl⟩
    go_wp2
    go_ret
    exact ⟨rfl, rfl⟩
/-- the node above one, or the template whose contents it is -/
def aboveN (ns : List Nd) (n : Int) : Int := if atN ns n Nd.up (-1) ≠ -1 then atN ns n Nd.up (-1) else if innN ns (wrap64 (n - 1)) = n then wrap64 (n - 1) else -1
end
end Go.Proofs.Ytodlcfhkiilpgaa
namespace Go.Proofs.Ytodlcfhkiilpgaa
open Go.RowKit Go.Lib

def pageNd : Nd := ⟨1, 0, ⟨#[]⟩, ⟨#[]⟩, none, [], 0, ⟨#[]⟩, ⟨#[]⟩, -1, .slice none 0 0, [], -1⟩
theorem page_any (W : World) : Calls Try.prog 38 #[] W fun e W' => e = .returned (.agg pageNd.cs.toArray) ∧ W' = W.alloc (.cells pageNd.cs.toArray 29) := by
  unfold pageNd Nd.cs
  go_enter Try.func38, Try.ntmps38
  go_wp2
  refine bodyPost_ret (by simp [results, Try.results38, go_sem]; rfl) rfl ?_
  simp
theorem New_any (W : World) : Calls Try.prog 20 #[] W fun e W' => ∃ D v, e = .returned (.pointer (some ⟨D, 0, none⟩)) ∧ DocM W.heap.size D v false [pageNd] W' ∧ Below W.heap.size W W' := by
  obtain ⟨W1, hW1⟩ : ∃ W1, W.alloc (.cells pageNd.cs.toArray 29) = W1 := ⟨_, rfl⟩
  have hb1 : Below W.heap.size W W1 := by rw [← hW1]; exact (Below.refl _ W).alloc (Nat.le_refl _) _
  have hs1 : W.heap.size ≤ W1.heap.size := by rw [← hW1, World.size_alloc]; omega
  have KP := Lib.hid (page_any W)
  rw [hW1] at KP
  clear hW1
  unfold pageNd Nd.cs at KP
  simp only [List.length_nil] at KP
  go_enter Try.func20, Try.ntmps20
  go_wp2_with fail
  refine KP.out.mono ?_
  rintro e w1 ⟨rfl, rfl⟩
  go_wp2
  go_ret
  refine ⟨w1.heap.size + 1, .slice (some ⟨w1.heap.size, 0, none⟩) 1 1, rfl, ⟨?_, ?_, ?_, ?_, ?_, by omega⟩, (hb1.alloc hs1 _).alloc (by simp; omega) _⟩
  · have := heap_alloc_new (w1.alloc (.cells pageNd.cs.toArray 29)) (.cells #[.slice (some ⟨w1.heap.size, 0, none⟩) 1 1, .bool false] 42)
    rw [World.size_alloc] at this
    exact this
  · refine ⟨by rw [cellsN_len], .inr ⟨w1.heap.size, 1, pageNd.cs.toArray, rfl, hs1, ?_, Nat.le_refl _, by decide, rfl, rfl⟩⟩
    exact (Below.heap_alloc _ _ _ (by simp)).trans (heap_alloc_new w1 _)
  · intro i x hx
    match i, hx with
    | 0, hx => simp at hx; subst hx; exact World.ownsRow_nil _ _ _ _
    | i + 1, hx => simp at hx
  · intro i x hx
    match i, hx with
    | 0, hx => simp at hx; subst hx; exact World.ownsRow_nil _ _ _ _
    | i + 1, hx => simp at hx
  · intro i j x y g hx hy h1 h2
    match i, hx with
    | 0, hx => simp at hx; subst hx; cases h1
    | i + 1, hx => simp at hx
/-- whether a node is a template -/
def tplB (n : Nd) : Bool := n.kind == 2 && n.space == 0 && n.name.toList == [116, 101, 109, 112, 108, 97, 116, 101]
set_option maxHeartbeats 400000 in
theorem isTpl_any (n : Nd) (W : World) : Calls Try.prog 37 #[.agg n.cs.toArray] W fun e W' => e = .returned (.bool (tplB n)) ∧ Below W.heap.size W W' := by
  unfold tplB
  unfold Nd.cs
  cases h1 : (n.kind == 2) with
  | false =>
    go_enter Try.func37, Try.ntmps37
    go_wp2
    go_ret
    exact ⟨rfl, by first | exact Below.refl _ _ | exact (Below.refl _ W).alloc (Nat.le_refl _) _⟩
  | true =>
    cases h2 : (n.space == 0) with
    | false =>
      go_enter Try.func37, Try.ntmps37
      go_wp2
      go_ret
      exact ⟨rfl, by first | exact Below.refl _ _ | exact (Below.refl _ W).alloc (Nat.le_refl _) _⟩
    | true =>
      go_enter Try.func37, Try.ntmps37
      go_wp2
      go_ret
      exact ⟨(by simp only [Bool.true_and]; rfl), by first | exact Below.refl _ _ | exact (Below.refl _ W).alloc (Nat.le_refl _) _⟩
/-- a node alone: its attributes copied, no place, no kids -/
def aloneNd (n : Nd) (A : Option Addr) (c : Nat) : Nd := { n with aA := A, ac := c, up := -1, kv := .slice none 0 0, kids := [], inner := -1 }
theorem own_slice {W : World} {b t m k : Nat} {v : Value} {vs : List Value} (h : W.ownsRow b t m v k vs) : ∃ A c, v = .slice A k c := by
  obtain ⟨h1, h2⟩ := h
  rcases h2 with h2 | h2
  · obtain ⟨h3, h4⟩ := h2
    exact ⟨none, 0, by rw [h3]; simp_all⟩
  · obtain ⟨g, cap, xs, h3, _⟩ := h2
    exact ⟨_, _, h3⟩
/-- ten cells stored, one after the other -/
theorem set10 (w : World) (g t : Nat) (a0 a1 a2 a3 a4 a5 a6 a7 a8 a9 v0 v1 v2 v3 v4 v5 v6 v7 v8 v9 : Value) (h : w.heap[g]? = some (.cells #[a0, a1, a2, a3, a4, a5, a6, a7, a8, a9] t (0, 0))) : ((((((((((w.setCell ⟨g, 0, none⟩ v0).setCell ⟨g, 1, none⟩ v1).setCell ⟨g, 2, none⟩ v2).setCell ⟨g, 3, none⟩ v3).setCell ⟨g, 4, none⟩ v4).setCell ⟨g, 5, none⟩ v5).setCell ⟨g, 6, none⟩ v6).setCell ⟨g, 7, none⟩ v7).setCell ⟨g, 8, none⟩ v8).setCell ⟨g, 9, none⟩ v9).heap[g]? = some (.cells #[v0, v1, v2, v3, v4, v5, v6, v7, v8, v9] t (0, 0)) := by
  have h0 := h
  have h1 : (w.setCell ⟨g, 0, none⟩ v0).heap[g]? = some (.cells #[v0, a1, a2, a3, a4, a5, a6, a7, a8, a9] t (0, 0)) := heap_setCell_same _ g 0 _ t v0 h0
  have h2 : ((w.setCell ⟨g, 0, none⟩ v0).setCell ⟨g, 1, none⟩ v1).heap[g]? = some (.cells #[v0, v1, a2, a3, a4, a5, a6, a7, a8, a9] t (0, 0)) := heap_setCell_same _ g 1 _ t v1 h1
  have h3 : (((w.setCell ⟨g, 0, none⟩ v0).setCell ⟨g, 1, none⟩ v1).setCell ⟨g, 2, none⟩ v2).heap[g]? = some (.cells #[v0, v1, v2, a3, a4, a5, a6, a7, a8, a9] t (0, 0)) := heap_setCell_same _ g 2 _ t v2 h2
  have h4 : ((((w.setCell ⟨g, 0, none⟩ v0).setCell ⟨g, 1, none⟩ v1).setCell ⟨g, 2, none⟩ v2).setCell ⟨g, 3, none⟩ v3).heap[g]? = some (.cells #[v0, v1, v2, v3, a4, a5, a6, a7, a8, a9] t (0, 0)) := heap_setCell_same _ g 3 _ t v3 h3
  have h5 : (((((w.setCell ⟨g, 0, none⟩ v0).setCell ⟨g, 1, none⟩ v1).setCell ⟨g, 2, none⟩ v2).setCell ⟨g, 3, none⟩ v3).setCell ⟨g, 4, none⟩ v4).heap[g]? = some (.cells #[v0, v1, v2, v3, v4, a5, a6, a7, a8, a9] t (0, 0)) := heap_setCell_same _ g 4 _ t v4 h4
  have h6 : ((((((w.setCell ⟨g, 0, none⟩ v0).setCell ⟨g, 1, none⟩ v1).setCell ⟨g, 2, none⟩ v2).setCell ⟨g, 3, none⟩ v3).setCell ⟨g, 4, none⟩ v4).setCell ⟨g, 5, none⟩ v5).heap[g]? = some (.cells #[v0, v1, v2, v3, v4, v5, a6, a7, a8, a9] t (0, 0)) := heap_setCell_same _ g 5 _ t v5 h5
  have h7 : (((((((w.setCell ⟨g, 0, none⟩ v0).setCell ⟨g, 1, none⟩ v1).setCell ⟨g, 2, none⟩ v2).setCell ⟨g, 3, none⟩ v3).setCell ⟨g, 4, none⟩ v4).setCell ⟨g, 5, none⟩ v5).setCell ⟨g, 6, none⟩ v6).heap[g]? = some (.cells #[v0, v1, v2, v3, v4, v5, v6, a7, a8, a9] t (0, 0)) := heap_setCell_same _ g 6 _ t v6 h6
  have h8 : ((((((((w.setCell ⟨g, 0, none⟩ v0).setCell ⟨g, 1, none⟩ v1).setCell ⟨g, 2, none⟩ v2).setCell ⟨g, 3, none⟩ v3).setCell ⟨g, 4, none⟩ v4).setCell ⟨g, 5, none⟩ v5).setCell ⟨g, 6, none⟩ v6).setCell ⟨g, 7, none⟩ v7).heap[g]? = some (.cells #[v0, v1, v2, v3, v4, v5, v6, v7, a8, a9] t (0, 0)) := heap_setCell_same _ g 7 _ t v7 h7
  have h9 : (((((((((w.setCell ⟨g, 0, none⟩ v0).setCell ⟨g, 1, none⟩ v1).setCell ⟨g, 2, none⟩ v2).setCell ⟨g, 3, none⟩ v3).setCell ⟨g, 4, none⟩ v4).setCell ⟨g, 5, none⟩ v5).setCell ⟨g, 6, none⟩ v6).setCell ⟨g, 7, none⟩ v7).setCell ⟨g, 8, none⟩ v8).heap[g]? = some (.cells #[v0, v1, v2, v3, v4, v5, v6, v7, v8, a9] t (0, 0)) := heap_setCell_same _ g 8 _ t v8 h8
  have h10 : ((((((((((w.setCell ⟨g, 0, none⟩ v0).setCell ⟨g, 1, none⟩ v1).setCell ⟨g, 2, none⟩ v2).setCell ⟨g, 3, none⟩ v3).setCell ⟨g, 4, none⟩ v4).setCell ⟨g, 5, none⟩ v5).setCell ⟨g, 6, none⟩ v6).setCell ⟨g, 7, none⟩ v7).setCell ⟨g, 8, none⟩ v8).setCell ⟨g, 9, none⟩ v9).heap[g]? = some (.cells #[v0, v1, v2, v3, v4, v5, v6, v7, v8, v9] t (0, 0)) := heap_setCell_same _ g 9 _ t v9 h9
  exact h10
theorem set10_other (w : World) (g : Nat) (v0 v1 v2 v3 v4 v5 v6 v7 v8 v9 : Value) {k : Nat} (hk : k ≠ g) : ((((((((((w.setCell ⟨g, 0, none⟩ v0).setCell ⟨g, 1, none⟩ v1).setCell ⟨g, 2, none⟩ v2).setCell ⟨g, 3, none⟩ v3).setCell ⟨g, 4, none⟩ v4).setCell ⟨g, 5, none⟩ v5).setCell ⟨g, 6, none⟩ v6).setCell ⟨g, 7, none⟩ v7).setCell ⟨g, 8, none⟩ v8).setCell ⟨g, 9, none⟩ v9).heap[k]? = w.heap[k]? := by
  rw [heap_setCell_other _ ⟨g, 9, none⟩ k _ hk, heap_setCell_other _ ⟨g, 8, none⟩ k _ hk, heap_setCell_other _ ⟨g, 7, none⟩ k _ hk, heap_setCell_other _ ⟨g, 6, none⟩ k _ hk, heap_setCell_other _ ⟨g, 5, none⟩ k _ hk, heap_setCell_other _ ⟨g, 4, none⟩ k _ hk, heap_setCell_other _ ⟨g, 3, none⟩ k _ hk, heap_setCell_other _ ⟨g, 2, none⟩ k _ hk, heap_setCell_other _ ⟨g, 1, none⟩ k _ hk, heap_setCell_other _ ⟨g, 0, none⟩ k _ hk]
theorem set10_below (w : World) (B g : Nat) (hB : B ≤ g) (v0 v1 v2 v3 v4 v5 v6 v7 v8 v9 : Value) : Below B w ((((((((((w.setCell ⟨g, 0, none⟩ v0).setCell ⟨g, 1, none⟩ v1).setCell ⟨g, 2, none⟩ v2).setCell ⟨g, 3, none⟩ v3).setCell ⟨g, 4, none⟩ v4).setCell ⟨g, 5, none⟩ v5).setCell ⟨g, 6, none⟩ v6).setCell ⟨g, 7, none⟩ v7).setCell ⟨g, 8, none⟩ v8).setCell ⟨g, 9, none⟩ v9) := by
  exact (((((((((((Below.refl B w).setCell (p := ⟨g, 0, none⟩) hB _).setCell (p := ⟨g, 1, none⟩) hB _).setCell (p := ⟨g, 2, none⟩) hB _).setCell (p := ⟨g, 3, none⟩) hB _).setCell (p := ⟨g, 4, none⟩) hB _).setCell (p := ⟨g, 5, none⟩) hB _).setCell (p := ⟨g, 6, none⟩) hB _).setCell (p := ⟨g, 7, none⟩) hB _).setCell (p := ⟨g, 8, none⟩) hB _).setCell (p := ⟨g, 9, none⟩) hB _)
theorem own_move {W W' : World} {b b' t m k : Nat} {v : Value} {vs : List Value} (h : W.ownsRow b t m v k vs) (hk : ∀ g, b ≤ g → W'.heap[g]? = W.heap[g]?) (hb : b' ≤ b) : W'.ownsRow b' t m v k vs := by
  obtain ⟨h1, h2⟩ := h
  refine ⟨h1, ?_⟩
  rcases h2 with h2 | ⟨g, cap, xs, h3, h4, h5, h6⟩
  · exact .inl h2
  · exact .inr ⟨g, cap, xs, h3, Nat.le_trans hb h4, (hk g h4).trans h5, h6⟩
set_option maxHeartbeats 400000 in
theorem alone_any (n : Nd) (W : World) (hr : RdA W n.aA n.attrs) (hA : n.aA = none → n.attrs = []) (hl : n.attrs.length ≤ 1000000) : Calls Try.prog 36 #[.agg n.cs.toArray] W fun e W' => ∃ A c, e = .returned (.agg (aloneNd n A c).cs.toArray) ∧ W'.ownsRow W.heap.size 54 2 (.slice A n.attrs.length c) n.attrs.length (cellsA n.attrs) ∧ Below W.heap.size W W' := by
  obtain ⟨W1, hW1⟩ : ∃ W1, W.alloc (.cells n.cs.toArray 29) = W1 := ⟨_, rfl⟩
  obtain ⟨W2, hW2⟩ : ∃ W2, W1.alloc (.cells #[.int .i64 0, .int .i64 0, .string { data := #[] }, .string { data := #[] }, .slice none 0 0, .string { data := #[] }, .string { data := #[] }, .int .i64 0, .slice none 0 0, .int .i64 0] 29) = W2 := ⟨_, rfl⟩
  have hs1 : W1.heap.size = W.heap.size + 1 := by rw [← hW1, World.size_alloc]
  have hs2 : W2.heap.size = W.heap.size + 1 + 1 := by rw [← hW2, World.size_alloc, hs1]
  have hb1 : Below W.heap.size W W1 := by rw [← hW1]; exact (Below.refl _ W).alloc (Nat.le_refl _) _
  have hb2 : Below W.heap.size W W2 := by rw [← hW2]; exact hb1.alloc (by omega) _
  have g1 : W2.heap[W.heap.size]? = some (.cells n.cs.toArray 29 (0, 0)) := by
    rw [← hW2, Below.heap_alloc _ _ _ (by omega), ← hW1]; exact heap_alloc_new W _
  have g2 : W2.heap[W.heap.size + 1]? = some (.cells #[.int .i64 0, .int .i64 0, .string { data := #[] }, .string { data := #[] }, .slice none 0 0, .string { data := #[] }, .string { data := #[] }, .int .i64 0, .slice none 0 0, .int .i64 0] 29 (0, 0)) := by
    rw [← hW2, ← hs1]; exact heap_alloc_new W1 _
  have k4 : W2.cell? ⟨W.heap.size, 4, none⟩ = some (.slice n.aA n.attrs.length n.ac) := by rw [cell_of_row W2 _ _ _ _ _ g1]; rfl
  have KC := Lib.hid (clone_any n.attrs n.aA n.ac W2 (hr.below hb2) hl hA)
  have HB2 := Lib.hid hb2
  have G1 := Lib.hid g1
  have G2 := Lib.hid g2
  clear hr hA hb1 hb2 g1 g2 hs1
  unfold Nd.cs at hW1 ⊢
  simp only [List.toArray] at hW1
  subst hW1
  go_enter Try.func36, Try.ntmps36
  go_wp2_with fail
  refine KC.out.mono ?_
  rintro e w3 ⟨v, rfl, ho, hb3⟩
  obtain ⟨A, c, rfl⟩ := own_slice ho
  have g1 : w3.heap[W.heap.size]? = some (.cells n.cs.toArray 29 (0, 0)) := (hb3.block _ (by omega)).trans G1.out
  have g2 := (hb3.block (W.heap.size + 1) (by omega)).trans G2.out
  have c0 : w3.cell? ⟨W.heap.size, 0, none⟩ = some (.int .i64 n.kind) := by rw [cell_of_row w3 _ _ _ _ _ g1]; rfl
  have c1 : w3.cell? ⟨W.heap.size, 1, none⟩ = some (.int .i64 n.space) := by rw [cell_of_row w3 _ _ _ _ _ g1]; rfl
  have c2 : w3.cell? ⟨W.heap.size, 2, none⟩ = some (.string n.name) := by rw [cell_of_row w3 _ _ _ _ _ g1]; rfl
  have c3 : w3.cell? ⟨W.heap.size, 3, none⟩ = some (.string n.data) := by rw [cell_of_row w3 _ _ _ _ _ g1]; rfl
  have c4 : w3.cell? ⟨W.heap.size, 4, none⟩ = some (.slice n.aA n.attrs.length n.ac) := by rw [cell_of_row w3 _ _ _ _ _ g1]; rfl
  have c5 : w3.cell? ⟨W.heap.size, 5, none⟩ = some (.string n.pub) := by rw [cell_of_row w3 _ _ _ _ _ g1]; rfl
  have c6 : w3.cell? ⟨W.heap.size, 6, none⟩ = some (.string n.sys) := by rw [cell_of_row w3 _ _ _ _ _ g1]; rfl
  have c7 : w3.cell? ⟨W.heap.size, 7, none⟩ = some (.int .i64 n.up) := by rw [cell_of_row w3 _ _ _ _ _ g1]; rfl
  have c8 : w3.cell? ⟨W.heap.size, 8, none⟩ = some n.kv := by rw [cell_of_row w3 _ _ _ _ _ g1]; rfl
  have c9 : w3.cell? ⟨W.heap.size, 9, none⟩ = some (.int .i64 n.inner) := by rw [cell_of_row w3 _ _ _ _ _ g1]; rfl
  have fz : ∀ j, w3.frozen? ⟨W.heap.size, j, none⟩ = false := Lib.frozen_of_heap g1
  have fz2 : ∀ j, w3.frozen? ⟨W.heap.size + 1, j, none⟩ = false := Lib.frozen_of_heap g2
  have HO := Lib.hid ho
  have HB3 := Lib.hid hb3
  have H1 := Lib.hid g1
  have H2 := Lib.hid g2
  clear ho hb3 g1 g2 G1 G2 KC k4 hW2
  go_upto_region 3 with fail
  obtain ⟨w4, hw4⟩ : ∃ w4, (((w3.setCell ⟨W.heap.size, 4, none⟩ (.slice A n.attrs.length c)).setCell ⟨W.heap.size, 7, none⟩ (.int .i64 (-1))).setCell ⟨W.heap.size, 8, none⟩ (.slice none 0 0)).setCell ⟨W.heap.size, 9, none⟩ (.int .i64 (-1)) = w4 := ⟨_, rfl⟩
  have q1 : w4.heap[W.heap.size]? = some (.cells (aloneNd n A c).cs.toArray 29 (0, 0)) := by
    rw [← hw4]
    exact heap_setCell_same _ _ 9 _ _ _ (heap_setCell_same _ _ 8 _ _ _ (heap_setCell_same _ _ 7 _ _ _ (heap_setCell_same _ _ 4 _ _ _ H1.out)))
  have q3 : ∀ k, W.heap.size ≠ k → w4.heap[k]? = w3.heap[k]? := by
    intro k hk
    have hk' : k ≠ W.heap.size := fun e => hk e.symm
    rw [← hw4, heap_setCell_other _ _ k _ hk', heap_setCell_other _ _ k _ hk', heap_setCell_other _ _ k _ hk', heap_setCell_other _ _ k _ hk']
  have q2 := (q3 (W.heap.size + 1) (by omega)).trans H2.out
  have b4 : Below W.heap.size w3 w4 := by
    rw [← hw4]
    exact ((((Below.refl W.heap.size w3).setCell (p := ⟨W.heap.size, 4, none⟩) (Nat.le_refl _) _).setCell (p := ⟨W.heap.size, 7, none⟩) (Nat.le_refl _) _).setCell (p := ⟨W.heap.size, 8, none⟩) (Nat.le_refl _) _).setCell (p := ⟨W.heap.size, 9, none⟩) (Nat.le_refl _) _
  rw [hw4]
  clear hw4 c0 c1 c2 c3 c4 c5 c6 c7 c8 c9 fz fz2
  have c0 : w4.cell? ⟨W.heap.size, 0, none⟩ = some (.int .i64 n.kind) := by rw [cell_of_row w4 _ _ _ _ _ q1]; rfl
  have c1 : w4.cell? ⟨W.heap.size, 1, none⟩ = some (.int .i64 n.space) := by rw [cell_of_row w4 _ _ _ _ _ q1]; rfl
  have c2 : w4.cell? ⟨W.heap.size, 2, none⟩ = some (.string n.name) := by rw [cell_of_row w4 _ _ _ _ _ q1]; rfl
  have c3 : w4.cell? ⟨W.heap.size, 3, none⟩ = some (.string n.data) := by rw [cell_of_row w4 _ _ _ _ _ q1]; rfl
  have c4 : w4.cell? ⟨W.heap.size, 4, none⟩ = some (.slice A n.attrs.length c) := by rw [cell_of_row w4 _ _ _ _ _ q1]; rfl
  have c5 : w4.cell? ⟨W.heap.size, 5, none⟩ = some (.string n.pub) := by rw [cell_of_row w4 _ _ _ _ _ q1]; rfl
  have c6 : w4.cell? ⟨W.heap.size, 6, none⟩ = some (.string n.sys) := by rw [cell_of_row w4 _ _ _ _ _ q1]; rfl
  have c7 : w4.cell? ⟨W.heap.size, 7, none⟩ = some (.int .i64 (-1)) := by rw [cell_of_row w4 _ _ _ _ _ q1]; rfl
  have c8 : w4.cell? ⟨W.heap.size, 8, none⟩ = some (.slice none 0 0) := by rw [cell_of_row w4 _ _ _ _ _ q1]; rfl
  have c9 : w4.cell? ⟨W.heap.size, 9, none⟩ = some (.int .i64 (-1)) := by rw [cell_of_row w4 _ _ _ _ _ q1]; rfl
  have z0 : w4.cell? ⟨W.heap.size + 1, 0, none⟩ = some (.int .i64 0) := by rw [cell_of_row w4 _ _ _ _ _ q2]; rfl
  have z1 : w4.cell? ⟨W.heap.size + 1, 1, none⟩ = some (.int .i64 0) := by rw [cell_of_row w4 _ _ _ _ _ q2]; rfl
  have z2 : w4.cell? ⟨W.heap.size + 1, 2, none⟩ = some (.string { data := #[] }) := by rw [cell_of_row w4 _ _ _ _ _ q2]; rfl
  have z3 : w4.cell? ⟨W.heap.size + 1, 3, none⟩ = some (.string { data := #[] }) := by rw [cell_of_row w4 _ _ _ _ _ q2]; rfl
  have z4 : w4.cell? ⟨W.heap.size + 1, 4, none⟩ = some (.slice none 0 0) := by rw [cell_of_row w4 _ _ _ _ _ q2]; rfl
  have z5 : w4.cell? ⟨W.heap.size + 1, 5, none⟩ = some (.string { data := #[] }) := by rw [cell_of_row w4 _ _ _ _ _ q2]; rfl
  have z6 : w4.cell? ⟨W.heap.size + 1, 6, none⟩ = some (.string { data := #[] }) := by rw [cell_of_row w4 _ _ _ _ _ q2]; rfl
  have z7 : w4.cell? ⟨W.heap.size + 1, 7, none⟩ = some (.int .i64 0) := by rw [cell_of_row w4 _ _ _ _ _ q2]; rfl
  have z8 : w4.cell? ⟨W.heap.size + 1, 8, none⟩ = some (.slice none 0 0) := by rw [cell_of_row w4 _ _ _ _ _ q2]; rfl
  have z9 : w4.cell? ⟨W.heap.size + 1, 9, none⟩ = some (.int .i64 0) := by rw [cell_of_row w4 _ _ _ _ _ q2]; rfl
  have fz2 : ∀ j, w4.frozen? ⟨W.heap.size + 1, j, none⟩ = false := Lib.frozen_of_heap q2
  have Q1 := Lib.hid q1
  have Q2 := Lib.hid q2
  have Q3 := Lib.hid q3
  have B4 := Lib.hid b4
  clear q1 q2 q3 b4
  go_wp2
  clear c0 c1 c2 c3 c4 c5 c6 c7 c8 c9
  clear z0 z1 z2 z3 z4 z5 z6 z7 z8 z9
  obtain ⟨w5, hw5⟩ : ∃ w5, ((((((((((w4.setCell ⟨W.heap.size + 1, 0, none⟩ (.int .i64 n.kind)).setCell ⟨W.heap.size + 1, 1, none⟩ (.int .i64 n.space)).setCell ⟨W.heap.size + 1, 2, none⟩ (.string n.name)).setCell ⟨W.heap.size + 1, 3, none⟩ (.string n.data)).setCell ⟨W.heap.size + 1, 4, none⟩ (.slice A n.attrs.length c)).setCell ⟨W.heap.size + 1, 5, none⟩ (.string n.pub)).setCell ⟨W.heap.size + 1, 6, none⟩ (.string n.sys)).setCell ⟨W.heap.size + 1, 7, none⟩ (.int .i64 (-1))).setCell ⟨W.heap.size + 1, 8, none⟩ (.slice none 0 0)).setCell ⟨W.heap.size + 1, 9, none⟩ (.int .i64 (-1))) = w5 := ⟨_, rfl⟩
  rw [hw5]
  have r1 : w5.heap[W.heap.size + 1]? = some (.cells (aloneNd n A c).cs.toArray 29 (0, 0)) := by
    rw [← hw5]
    exact set10 w4 (W.heap.size + 1) 29 _ _ _ _ _ _ _ _ _ _ _ _ _ _ _ _ _ _ _ _ Q2.out
  have r3 : ∀ k, W.heap.size + 1 ≠ k → w5.heap[k]? = w4.heap[k]? := by
    intro k hk
    have hk' : k ≠ W.heap.size + 1 := fun e => hk e.symm
    rw [← hw5]
    exact set10_other w4 (W.heap.size + 1) _ _ _ _ _ _ _ _ _ _ hk'
  have b5 : Below W.heap.size w4 w5 := by
    rw [← hw5]
    exact set10_below w4 W.heap.size (W.heap.size + 1) (Nat.le_succ _) _ _ _ _ _ _ _ _ _ _
  clear hw5
  have y0 : w5.cell? ⟨W.heap.size + 1, 0, none⟩ = some (.int .i64 n.kind) := by rw [cell_of_row w5 _ _ _ _ _ r1]; rfl
  have y1 : w5.cell? ⟨W.heap.size + 1, 1, none⟩ = some (.int .i64 n.space) := by rw [cell_of_row w5 _ _ _ _ _ r1]; rfl
  have y2 : w5.cell? ⟨W.heap.size + 1, 2, none⟩ = some (.string n.name) := by rw [cell_of_row w5 _ _ _ _ _ r1]; rfl
  have y3 : w5.cell? ⟨W.heap.size + 1, 3, none⟩ = some (.string n.data) := by rw [cell_of_row w5 _ _ _ _ _ r1]; rfl
  have y4 : w5.cell? ⟨W.heap.size + 1, 4, none⟩ = some (.slice A n.attrs.length c) := by rw [cell_of_row w5 _ _ _ _ _ r1]; rfl
  have y5 : w5.cell? ⟨W.heap.size + 1, 5, none⟩ = some (.string n.pub) := by rw [cell_of_row w5 _ _ _ _ _ r1]; rfl
  have y6 : w5.cell? ⟨W.heap.size + 1, 6, none⟩ = some (.string n.sys) := by rw [cell_of_row w5 _ _ _ _ _ r1]; rfl
  have y7 : w5.cell? ⟨W.heap.size + 1, 7, none⟩ = some (.int .i64 (-1)) := by rw [cell_of_row w5 _ _ _ _ _ r1]; rfl
  have y8 : w5.cell? ⟨W.heap.size + 1, 8, none⟩ = some (.slice none 0 0) := by rw [cell_of_row w5 _ _ _ _ _ r1]; rfl
  have y9 : w5.cell? ⟨W.heap.size + 1, 9, none⟩ = some (.int .i64 (-1)) := by rw [cell_of_row w5 _ _ _ _ _ r1]; rfl
  refine bodyPost_ret (v := .agg (aloneNd n A c).cs.toArray) (by simp [results, Try.results36, go_sem, y0, y1, y2, y3, y4, y5, y6, y7, y8, y9]; rfl) rfl ?_
  refine ⟨A, c, rfl, own_move HO.out (fun k hk => (r3 k (by omega)).trans (Q3.out k (by omega))) (by omega), ((HB2.out.trans (HB3.out.mono (by omega))).trans B4.out).trans b5⟩
end Go.Proofs.Ytodlcfhkiilpgaa
namespace Go.Proofs.Ytodlcfhkiilpgaa
open Go.RowKit Go.Lib

section
variable {base D : Nat} {v v' : Value} {qk : Bool} {ns xs : List Nd} {W W' : World}
/-- a row's block and a kid's, an attribute's are unlike -/
theorem DocM.row_ne (h : DocM base D v qk ns W) {i : Nat} {x : Nd} (hx : ns[i]? = some x) (k : Nat) : (x.kv.ownBlock = some k ∨ x.av.ownBlock = some k) → ¬ (k = D ∨ v.ownBlock = some k) := by
  rintro (e | e) (rfl | e2)
  · exact row_neD (h.kids i x hx) h.hd (by decide) e
  · exact rows_neN (h.kids i x hx) h.row (by decide) k e e2
  · exact row_neD (h.attrs i x hx) h.hd (by decide) e
  · exact rows_neN (h.attrs i x hx) h.row (by decide) k e e2
theorem DocM.row_neD (h : DocM base D v qk ns W) : v.ownBlock ≠ some D := Ytodlcfhkiilpgaa.row_neD h.row h.hd (by decide)
theorem DocM.push (h : DocM base D v qk ns W) (hf : Frm (fun k => k = D ∨ v.ownBlock = some k) W W') (hd : W'.heap[D]? = some (.cells #[v', .bool qk] 42 (0, 0))) (hr : W'.ownsRow base 29 10 v' (ns.length + xs.length) (cellsN ns ++ cellsN xs))
    (hx : ∀ x ∈ xs, x.kv = .slice none 0 0 ∧ x.kids = [] ∧ W'.ownsRow base 54 2 x.av x.attrs.length (cellsA x.attrs)) : DocM base D v' qk (ns ++ xs) W' := by
  have hn : ∀ (i : Nat) (x : Nd), (ns ++ xs)[i]? = some x → ns[i]? = some x ∨ (ns.length ≤ i ∧ x ∈ xs) := by
    intro i x hi
    rcases Nat.lt_or_ge i ns.length with hlt | hge
    · rw [List.getElem?_append_left hlt] at hi; exact .inl hi
    · rw [List.getElem?_append_right hge] at hi; exact .inr ⟨hge, List.mem_of_getElem? hi⟩
  refine ⟨hd, by rw [cellsN_snoc, List.length_append]; exact hr, ?_, ?_, ?_, h.ge⟩
  · intro i x hi
    rcases hn i x hi with h1 | ⟨_, h1⟩
    · exact hf.own (h.kids i x h1) (fun k e => h.row_ne h1 k (.inl e))
    · rw [(hx x h1).1, (hx x h1).2.1]; exact World.ownsRow_nil _ _ _ _
  · intro i x hi
    rcases hn i x hi with h1 | ⟨_, h1⟩
    · exact hf.own (h.attrs i x h1) (fun k e => h.row_ne h1 k (.inr e))
    · exact (hx x h1).2.2
  · intro i j x y g hi hj e1 e2
    rcases hn i x hi with h1 | ⟨_, h1⟩
    · rcases hn j y hj with h2 | ⟨_, h2⟩
      · exact h.apart i j x y g h1 h2 e1 e2
      · rw [(hx y h2).1] at e2; cases e2
    · rw [(hx x h1).1] at e1; cases e1
/-- what a call gives that adds nodes: all else lies as it lay -/
def Adds (base D : Nat) (v : Value) (qk : Bool) (ns ns' : List Nd) (W W' : World) : Prop :=
  ∃ v', DocM base D v' qk ns' W' ∧ Frm (DB D v ns) W W' ∧ ∀ k, DB D v' ns' k → DB D v ns k ∨ W.heap.size ≤ k
theorem DB.push {W : World} (hv : v'.ownBlock = v.ownBlock ∨ ∃ g, v'.ownBlock = some g ∧ W.heap.size ≤ g) (hx : ∀ x ∈ xs, x.kv = .slice none 0 0 ∧ ∀ k, x.av.ownBlock = some k → W.heap.size ≤ k) : ∀ k, DB D v' (ns ++ xs) k → DB D v ns k ∨ W.heap.size ≤ k := by
  rintro k (rfl | e | ⟨i, x, hi, e⟩)
  · exact .inl (.inl rfl)
  · rcases hv with h | ⟨g, h, hg⟩
    · exact .inl (.inr (.inl (h ▸ e)))
    · rw [h] at e; cases e; exact .inr hg
  · rcases Nat.lt_or_ge i ns.length with hlt | hge
    · rw [List.getElem?_append_left hlt] at hi; exact .inl (.inr (.inr ⟨i, x, hi, e⟩))
    · rw [List.getElem?_append_right hge] at hi
      have hm := hx x (List.mem_of_getElem? hi)
      rcases e with e | e
      · rw [hm.1] at e; cases e
      · exact .inr (hm.2 k e)
end
end Go.Proofs.Ytodlcfhkiilpgaa
namespace Go.Proofs.Ytodlcfhkiilpgaa
open Go.RowKit Go.Lib

theorem infoNd : (Try.prog.info? 29).map (fun i => (i.zero, i.size, i.bytes)) = some (some (.agg #[.int .i64 0, .int .i64 0, .string ⟨#[]⟩, .string ⟨#[]⟩, .slice none 0 0, .string ⟨#[]⟩, .string ⟨#[]⟩, .int .i64 0, .slice none 0 0, .int .i64 0]), 10, 144) := by kernel_rfl
theorem cells_add {w : World} {g : Nat} {t : TypeId} {l : List Value} (h : w.heap[g]? = some (.cells l.toArray t (0, 0))) : ∀ j u, l[j]? = some u → w.cell? ((⟨g, 0, none⟩ : Addr).add j) = some u := by
  intro j u hu
  rw [Addr.add_lit, cell_of_row _ _ _ _ _ _ h]
  simpa using hu
theorem alone_one (n : Nd) (A : Option Addr) (c : Nat) : ∀ u ∈ (aloneNd n A c).cs, u.oneCell' = true := by
  intro u hu
  simp only [aloneNd, Nd.cs, List.mem_cons, List.not_mem_nil, or_false] at hu
  rcases hu with rfl | rfl | rfl | rfl | rfl | rfl | rfl | rfl | rfl | rfl <;> rfl
section
variable {base D : Nat} {v : Value} {qk : Bool} {ns : List Nd} {W : World}
set_option maxRecDepth 100000 in
set_option maxHeartbeats 1000000 in
theorem add_plain (n : Nd) (h : DocM base D v qk ns W) (hb : base ≤ W.heap.size) (ht : tplB n = false) (hl : ns.length < 20000) (hr : RdA W n.aA n.attrs) (hA : n.aA = none → n.attrs = []) (hal : n.attrs.length ≤ 1000000) :
    Calls Try.prog 13 #[.pointer (some ⟨D, 0, none⟩), .agg n.cs.toArray] W fun e W' => e = .returned (.int .i64 ns.length) ∧ ∃ A c, Adds base D v qk ns (ns ++ [aloneNd n A c]) W W' := by
  obtain ⟨i0, hi, hz0, hz1, hz2⟩ := info_parts infoNd
  obtain ⟨W1, hW1⟩ : ∃ W1, W.alloc (.cells n.cs.toArray 29) = W1 := ⟨_, rfl⟩
  have hs1 : W1.heap.size = W.heap.size + 1 := by rw [← hW1, World.size_alloc]
  have hb1 : Below W.heap.size W W1 := by rw [← hW1]; exact (Below.refl _ W).alloc (Nat.le_refl _) _
  have g1 : W1.heap[W.heap.size]? = some (.cells n.cs.toArray 29 (0, 0)) := by rw [← hW1]; exact heap_alloc_new W _
  obtain ⟨An, cap, rfl, hle, hmx, hg⟩ := h.sl
  have d0 := (h.below hb1).cells.1
  have l0 : W1.cell? ⟨W.heap.size, 0, none⟩ = some (.int .i64 n.kind) := by rw [cell_of_row W1 _ _ _ _ _ g1]; rfl
  have l1 : W1.cell? ⟨W.heap.size, 1, none⟩ = some (.int .i64 n.space) := by rw [cell_of_row W1 _ _ _ _ _ g1]; rfl
  have l2 : W1.cell? ⟨W.heap.size, 2, none⟩ = some (.string n.name) := by rw [cell_of_row W1 _ _ _ _ _ g1]; rfl
  have l3 : W1.cell? ⟨W.heap.size, 3, none⟩ = some (.string n.data) := by rw [cell_of_row W1 _ _ _ _ _ g1]; rfl
  have l4 : W1.cell? ⟨W.heap.size, 4, none⟩ = some (.slice n.aA n.attrs.length n.ac) := by rw [cell_of_row W1 _ _ _ _ _ g1]; rfl
  have l5 : W1.cell? ⟨W.heap.size, 5, none⟩ = some (.string n.pub) := by rw [cell_of_row W1 _ _ _ _ _ g1]; rfl
  have l6 : W1.cell? ⟨W.heap.size, 6, none⟩ = some (.string n.sys) := by rw [cell_of_row W1 _ _ _ _ _ g1]; rfl
  have l7 : W1.cell? ⟨W.heap.size, 7, none⟩ = some (.int .i64 n.up) := by rw [cell_of_row W1 _ _ _ _ _ g1]; rfl
  have l8 : W1.cell? ⟨W.heap.size, 8, none⟩ = some n.kv := by rw [cell_of_row W1 _ _ _ _ _ g1]; rfl
  have l9 : W1.cell? ⟨W.heap.size, 9, none⟩ = some (.int .i64 n.inner) := by rw [cell_of_row W1 _ _ _ _ _ g1]; rfl
  have KA := Lib.hid (alone_any n W1 (hr.below hb1) hA hal)
  have HB1 := Lib.hid hb1
  have HD := Lib.hid h
  have G1 := Lib.hid g1
  have HT := Lib.hid ht
  have hD : D < W.heap.size := h.lt
  have HB := Lib.hid hb
  have HS1 := Lib.hid hs1
  have HMX := Lib.hid hmx
  have HL := Lib.hid hl
  have HLE := Lib.hid hle
  have g2 : decide ((20000 : Int) < (ns.length : Int) + 1) = false := decide_eq_false (by omega)
  clear hr hA hb1 g1 h ht hg hb hs1 hmx hle
  unfold Nd.cs at hW1 KA ⊢
  simp only [List.toArray] at hW1
  subst hW1
  go_enter Try.func13, Try.ntmps13
  go_wp2_with fail
  refine KA.out.mono ?_
  rintro e w2 ⟨A, c, rfl, hoA, hb2⟩
  have g1 : w2.heap[W.heap.size]? = some (.cells n.cs.toArray 29 (0, 0)) := (hb2.block _ (by rw [World.size_alloc]; omega)).trans G1.out
  have hbw : Below W.heap.size W w2 := HB1.out.trans (hb2.mono (by rw [World.size_alloc]; omega))
  have hd2 := HD.out.below hbw
  have hs2 := hbw.size
  have hs2' : W.heap.size < w2.heap.size := (Array.getElem?_eq_some_iff.1 g1).1
  clear l0 l1 l2 l3 l4 l5 l6 l7 l8 l9 d0 KA
  obtain ⟨W3, hW3⟩ : ∃ W3, w2.alloc (.cells (aloneNd n A c).cs.toArray 29) = W3 := ⟨_, rfl⟩
  have hb3 : Below w2.heap.size w2 W3 := by rw [← hW3]; exact (Below.refl _ w2).alloc (Nat.le_refl _) _
  have hs3 : W3.heap.size = w2.heap.size + 1 := by rw [← hW3, World.size_alloc]
  have g3 : W3.heap[w2.heap.size]? = some (.cells (aloneNd n A c).cs.toArray 29 (0, 0)) := by rw [← hW3]; exact heap_alloc_new w2 _
  have q1 := (hb3.block _ hs2').trans g1
  have l0 : W3.cell? ⟨W.heap.size, 0, none⟩ = some (.int .i64 n.kind) := by rw [cell_of_row W3 _ _ _ _ _ q1]; rfl
  have l1 : W3.cell? ⟨W.heap.size, 1, none⟩ = some (.int .i64 n.space) := by rw [cell_of_row W3 _ _ _ _ _ q1]; rfl
  have l2 : W3.cell? ⟨W.heap.size, 2, none⟩ = some (.string n.name) := by rw [cell_of_row W3 _ _ _ _ _ q1]; rfl
  have l3 : W3.cell? ⟨W.heap.size, 3, none⟩ = some (.string n.data) := by rw [cell_of_row W3 _ _ _ _ _ q1]; rfl
  have l4 : W3.cell? ⟨W.heap.size, 4, none⟩ = some (.slice n.aA n.attrs.length n.ac) := by rw [cell_of_row W3 _ _ _ _ _ q1]; rfl
  have l5 : W3.cell? ⟨W.heap.size, 5, none⟩ = some (.string n.pub) := by rw [cell_of_row W3 _ _ _ _ _ q1]; rfl
  have l6 : W3.cell? ⟨W.heap.size, 6, none⟩ = some (.string n.sys) := by rw [cell_of_row W3 _ _ _ _ _ q1]; rfl
  have l7 : W3.cell? ⟨W.heap.size, 7, none⟩ = some (.int .i64 n.up) := by rw [cell_of_row W3 _ _ _ _ _ q1]; rfl
  have l8 : W3.cell? ⟨W.heap.size, 8, none⟩ = some n.kv := by rw [cell_of_row W3 _ _ _ _ _ q1]; rfl
  have l9 : W3.cell? ⟨W.heap.size, 9, none⟩ = some (.int .i64 n.inner) := by rw [cell_of_row W3 _ _ _ _ _ q1]; rfl
  have KT := isTpl_any n W3
  rw [HT.out] at KT
  have KTH := Lib.hid KT
  have HBW := Lib.hid hbw
  have HD2 := Lib.hid hd2
  have HS2 := Lib.hid hs2
  have HS2' := Lib.hid hs2'
  have HB3 := Lib.hid hb3
  have HS3 := Lib.hid hs3
  have G3 := Lib.hid g3
  have HOA := Lib.hid hoA
  have HB2 := Lib.hid hb2
  clear KT hbw hd2 hs2 hs2' hb3 hs3 g3 q1 hoA hb2 g1 HB1 G1 hD
  unfold Nd.cs at hW3 KTH
  subst hW3
  go_wp2_with fail
  refine KTH.out.mono ?_
  rintro e w4 ⟨rfl, hb4⟩
  have hd4 := (HD2.out.below HB3.out).below hb4
  have g4 := (hb4.block w2.heap.size (by have := HS3.out; omega)).trans G3.out
  have hs4 := hb4.size
  have c0 := hd4.cells.1
  have hdD := hd4.lt
  have HDD := Lib.hid hd4.hd
  have HNE := Lib.hid hd4.row_neD
  have HROW := Lib.hid hd4.row
  have HNEW := Lib.hid (cells_add g4)
  have h63 : ns.length + 1 ≤ maxLen := by have := HL.out; unfold maxLen; omega
  have H63 := Lib.hid h63
  have hby : (ns.length + 1) * 144 ≤ 140737488355328 := by have := HL.out; omega
  have HBY := Lib.hid hby
  have hb4z : base ≤ w4.heap.size := by have := HB.out; have := HS2.out; have := HS3.out; omega
  have HB4Z := Lib.hid hb4z
  have HB4 := Lib.hid hb4
  have HD4 := Lib.hid hd4
  have HDL := Lib.hid hdD
  clear hb4 hd4 g4 hs4 h63 hby hb4z hdD l0 l1 l2 l3 l4 l5 l6 l7 l8 l9
  go_wp2_with (at_builtin; refine wpList_append_own_at _ rfl _ _ 40 rfl base 29 i0 _ 10 144 Try.underlying40 hi hz0 hz1 hz2 rfl (by decide) _ ns.length (cellsN ns) rfl HROW.out ⟨w2.heap.size, 0, none⟩ 1 1 (aloneNd n A c).cs rfl rfl HNEW.out (alone_one n A c) H63.out HBY.out HB4Z.out ?_; intro v' w5 hown5 hgrow5 hz5 hblk5; clear hz5; obtain ⟨A5, c5, rfl⟩ := own_slice hown5; have hd5 := (hgrow5.block D HDL.out (fun e => HNE.out e.symm)).trans HDD.out; have fz5 : w5.frozen? ⟨D, 0, none⟩ = false := (by simp [World.frozen?, hd5]); have c05 : w5.cell? ⟨D, 0, none⟩ = some (.slice An ns.length cap) := (by rw [cell_of_row _ _ _ _ _ _ hd5]; rfl))
  go_ret
  clear c0 c05 fz5
  have hf5 : Frm (fun k => k = D ∨ (Value.slice An ns.length cap).ownBlock = some k) W (w5.setCell ⟨D, 0, none⟩ (.slice A5 (ns.length + 1) c5)) := by
    refine (Frm.trans ?_ (Frm.grown hgrow5 (fun k e => .inr e))).trans (Frm.set _ (.inl rfl))
    exact Frm.below ((HBW.out.trans (HB3.out.mono HS2.out)).trans (HB4.out.mono (by have := HS3.out; have := HS2.out; omega)))
  have hd6 : (w5.setCell ⟨D, 0, none⟩ (.slice A5 (ns.length + 1) c5)).heap[D]? = some (.cells #[.slice A5 (ns.length + 1) c5, .bool qk] 42 (0, 0)) := heap_setCell_same _ D 0 _ _ _ hd5
  have hne5 : (Value.slice A5 (ns.length + 1) c5).ownBlock ≠ some D := row_neD hown5 hd5 (by decide)
  have hr6 := (Frm.set (S := fun k => k = D) (A := w5) (p := ⟨D, 0, none⟩) (.slice A5 (ns.length + 1) c5) rfl).own hown5 (fun k e h => hne5 (h ▸ e))
  have hoA4 := own_keep (own_keep HOA.out HB3.out) HB4.out
  have hoA5 := (Frm.grown (S := fun k => (Value.slice An ns.length cap).ownBlock = some k) hgrow5 (fun k e => e)).own hoA4 (fun k e h => rows_neN hoA4 HROW.out (by decide) k e h)
  have hoA6 := (Frm.set (S := fun k => k = D) (A := w5) (p := ⟨D, 0, none⟩) (.slice A5 (ns.length + 1) c5) rfl).own hoA5 (fun k e h => row_neD hoA5 hd5 (by decide) (h ▸ e))
  refine ⟨rfl, A, c, .slice A5 (ns.length + 1) c5, ?_, hf5.mono (fun k h => by rcases h with h | h; exact .inl h; exact .inr (.inl h)), ?_⟩
  · refine HD.out.push hf5 hd6 (by simpa [cellsN] using hr6) ?_
    intro x hx
    simp at hx
    subst hx
    refine ⟨rfl, rfl, own_move hoA6 (fun _ _ => rfl) ?_⟩
    have := HB.out
    rw [World.size_alloc]
    omega
  · refine DB.push ?_ ?_
    · rcases hblk5 with h | h
      · exact .inl h
      · exact .inr ⟨_, h, by have := HB4.out.size; have := HS3.out; have := HS2.out; omega⟩
    · intro x hx
      simp at hx
      subst hx
      refine ⟨rfl, fun k e => ?_⟩
      have := (HOA.out.lt k e).1
      rw [World.size_alloc] at this
      omega
end
end Go.Proofs.Ytodlcfhkiilpgaa
namespace Go.Proofs.Ytodlcfhkiilpgaa
open Go.RowKit Go.Lib

/-- a template alone, its contents beneath the next node -/
def tplNd (n : Nd) (A : Option Addr) (c : Nat) (k : Nat) : Nd := { aloneNd n A c with inner := (k : Int) + 1 }
theorem page_one : ∀ u ∈ pageNd.cs, u.oneCell' = true := by
  intro u hu
  simp only [pageNd, Nd.cs, List.mem_cons, List.not_mem_nil, or_false] at hu
  rcases hu with rfl | rfl | rfl | rfl | rfl | rfl | rfl | rfl | rfl | rfl <;> rfl
section
variable {base D : Nat} {v : Value} {qk : Bool} {ns : List Nd} {W : World}
set_option maxRecDepth 100000 in
set_option maxHeartbeats 1000000 in
theorem add_tpl (n : Nd) (h : DocM base D v qk ns W) (hb : base ≤ W.heap.size) (ht : tplB n = true) (hl : ns.length + 1 < 20000) (hr : RdA W n.aA n.attrs) (hA : n.aA = none → n.attrs = []) (hal : n.attrs.length ≤ 1000000) :
    Calls Try.prog 13 #[.pointer (some ⟨D, 0, none⟩), .agg n.cs.toArray] W fun e W' => e = .returned (.int .i64 ns.length) ∧ ∃ A c, Adds base D v qk ns (ns ++ [tplNd n A c ns.length, pageNd]) W W' := by
  obtain ⟨i0, hi, hz0, hz1, hz2⟩ := info_parts infoNd
  obtain ⟨W1, hW1⟩ : ∃ W1, W.alloc (.cells n.cs.toArray 29) = W1 := ⟨_, rfl⟩
  have hs1 : W1.heap.size = W.heap.size + 1 := by rw [← hW1, World.size_alloc]
  have hb1 : Below W.heap.size W W1 := by rw [← hW1]; exact (Below.refl _ W).alloc (Nat.le_refl _) _
  have g1 : W1.heap[W.heap.size]? = some (.cells n.cs.toArray 29 (0, 0)) := by rw [← hW1]; exact heap_alloc_new W _
  obtain ⟨An, cap, rfl, hle, hmx, hg⟩ := h.sl
  have d0 := (h.below hb1).cells.1
  have l0 : W1.cell? ⟨W.heap.size, 0, none⟩ = some (.int .i64 n.kind) := by rw [cell_of_row W1 _ _ _ _ _ g1]; rfl
  have l1 : W1.cell? ⟨W.heap.size, 1, none⟩ = some (.int .i64 n.space) := by rw [cell_of_row W1 _ _ _ _ _ g1]; rfl
  have l2 : W1.cell? ⟨W.heap.size, 2, none⟩ = some (.string n.name) := by rw [cell_of_row W1 _ _ _ _ _ g1]; rfl
  have l3 : W1.cell? ⟨W.heap.size, 3, none⟩ = some (.string n.data) := by rw [cell_of_row W1 _ _ _ _ _ g1]; rfl
  have l4 : W1.cell? ⟨W.heap.size, 4, none⟩ = some (.slice n.aA n.attrs.length n.ac) := by rw [cell_of_row W1 _ _ _ _ _ g1]; rfl
  have l5 : W1.cell? ⟨W.heap.size, 5, none⟩ = some (.string n.pub) := by rw [cell_of_row W1 _ _ _ _ _ g1]; rfl
  have l6 : W1.cell? ⟨W.heap.size, 6, none⟩ = some (.string n.sys) := by rw [cell_of_row W1 _ _ _ _ _ g1]; rfl
  have l7 : W1.cell? ⟨W.heap.size, 7, none⟩ = some (.int .i64 n.up) := by rw [cell_of_row W1 _ _ _ _ _ g1]; rfl
  have l8 : W1.cell? ⟨W.heap.size, 8, none⟩ = some n.kv := by rw [cell_of_row W1 _ _ _ _ _ g1]; rfl
  have l9 : W1.cell? ⟨W.heap.size, 9, none⟩ = some (.int .i64 n.inner) := by rw [cell_of_row W1 _ _ _ _ _ g1]; rfl
  have KA := Lib.hid (alone_any n W1 (hr.below hb1) hA hal)
  have HB1 := Lib.hid hb1
  have HD := Lib.hid h
  have G1 := Lib.hid g1
  have HT := Lib.hid ht
  have hD : D < W.heap.size := h.lt
  have HB := Lib.hid hb
  have HS1 := Lib.hid hs1
  have HMX := Lib.hid hmx
  have HL := Lib.hid hl
  have HLE := Lib.hid hle
  have g2 : decide ((20000 : Int) < (ns.length : Int) + 2) = false := decide_eq_false (by omega)
  clear hr hA hb1 g1 h ht hg hb hs1 hmx hle
  unfold Nd.cs at hW1 KA ⊢
  simp only [List.toArray] at hW1
  subst hW1
  go_enter Try.func13, Try.ntmps13
  go_wp2_with fail
  refine KA.out.mono ?_
  rintro e w2 ⟨A, c, rfl, hoA, hb2⟩
  have g1 : w2.heap[W.heap.size]? = some (.cells n.cs.toArray 29 (0, 0)) := (hb2.block _ (by rw [World.size_alloc]; omega)).trans G1.out
  have hbw : Below W.heap.size W w2 := HB1.out.trans (hb2.mono (by rw [World.size_alloc]; omega))
  have hd2 := HD.out.below hbw
  have hs2 := hbw.size
  have hs2' : W.heap.size < w2.heap.size := (Array.getElem?_eq_some_iff.1 g1).1
  clear l0 l1 l2 l3 l4 l5 l6 l7 l8 l9 d0 KA
  obtain ⟨W3, hW3⟩ : ∃ W3, w2.alloc (.cells (aloneNd n A c).cs.toArray 29) = W3 := ⟨_, rfl⟩
  have hb3 : Below w2.heap.size w2 W3 := by rw [← hW3]; exact (Below.refl _ w2).alloc (Nat.le_refl _) _
  have hs3 : W3.heap.size = w2.heap.size + 1 := by rw [← hW3, World.size_alloc]
  have g3 : W3.heap[w2.heap.size]? = some (.cells (aloneNd n A c).cs.toArray 29 (0, 0)) := by rw [← hW3]; exact heap_alloc_new w2 _
  have q1 := (hb3.block _ hs2').trans g1
  have l0 : W3.cell? ⟨W.heap.size, 0, none⟩ = some (.int .i64 n.kind) := by rw [cell_of_row W3 _ _ _ _ _ q1]; rfl
  have l1 : W3.cell? ⟨W.heap.size, 1, none⟩ = some (.int .i64 n.space) := by rw [cell_of_row W3 _ _ _ _ _ q1]; rfl
  have l2 : W3.cell? ⟨W.heap.size, 2, none⟩ = some (.string n.name) := by rw [cell_of_row W3 _ _ _ _ _ q1]; rfl
  have l3 : W3.cell? ⟨W.heap.size, 3, none⟩ = some (.string n.data) := by rw [cell_of_row W3 _ _ _ _ _ q1]; rfl
  have l4 : W3.cell? ⟨W.heap.size, 4, none⟩ = some (.slice n.aA n.attrs.length n.ac) := by rw [cell_of_row W3 _ _ _ _ _ q1]; rfl
  have l5 : W3.cell? ⟨W.heap.size, 5, none⟩ = some (.string n.pub) := by rw [cell_of_row W3 _ _ _ _ _ q1]; rfl
  have l6 : W3.cell? ⟨W.heap.size, 6, none⟩ = some (.string n.sys) := by rw [cell_of_row W3 _ _ _ _ _ q1]; rfl
  have l7 : W3.cell? ⟨W.heap.size, 7, none⟩ = some (.int .i64 n.up) := by rw [cell_of_row W3 _ _ _ _ _ q1]; rfl
  have l8 : W3.cell? ⟨W.heap.size, 8, none⟩ = some n.kv := by rw [cell_of_row W3 _ _ _ _ _ q1]; rfl
  have l9 : W3.cell? ⟨W.heap.size, 9, none⟩ = some (.int .i64 n.inner) := by rw [cell_of_row W3 _ _ _ _ _ q1]; rfl
  have KT := isTpl_any n W3
  rw [HT.out] at KT
  have KTH := Lib.hid KT
  have HBW := Lib.hid hbw
  have HD2 := Lib.hid hd2
  have HS2 := Lib.hid hs2
  have HS2' := Lib.hid hs2'
  have HB3 := Lib.hid hb3
  have HS3 := Lib.hid hs3
  have G3 := Lib.hid g3
  have HOA := Lib.hid hoA
  have HB2 := Lib.hid hb2
  clear KT hbw hd2 hs2 hs2' hb3 hs3 g3 q1 hoA hb2 g1 HB1 G1 hD
  unfold Nd.cs at hW3 KTH
  subst hW3
  go_wp2_with fail
  refine KTH.out.mono ?_
  rintro e w4 ⟨rfl, hb4⟩
  have hd4 := (HD2.out.below HB3.out).below hb4
  have g4 := (hb4.block w2.heap.size (by have := HS3.out; omega)).trans G3.out
  have hs4 := hb4.size
  have hM : w2.heap.size < w4.heap.size := by have := HS3.out; omega
  have m9 : w4.cell? ⟨w2.heap.size, 9, none⟩ = some (.int .i64 (-1)) := by rw [cell_of_row _ _ _ _ _ _ g4]; rfl
  have f9 : w4.frozen? ⟨w2.heap.size, 9, none⟩ = false := by simp [World.frozen?, g4]
  have HD4 := Lib.hid hd4
  have HG4 := Lib.hid g4
  have HB4 := Lib.hid hb4
  clear hd4 g4 hs4 hb4 l0 l1 l2 l3 l4 l5 l6 l7 l8 l9
  go_upto_region 7 with fail
  obtain ⟨W5, hW5⟩ : ∃ W5, w4.setCell ⟨w2.heap.size, 9, none⟩ (.int .i64 ((ns.length : Int) + 1)) = W5 := ⟨_, rfl⟩
  have q5 : W5.heap[w2.heap.size]? = some (.cells (tplNd n A c ns.length).cs.toArray 29 (0, 0)) := by
    rw [← hW5]; exact heap_setCell_same _ _ 9 _ _ _ HG4.out
  have hs5 : W5.heap.size = w4.heap.size := by rw [← hW5]; simp [World.setCell]
  have hb5 : Below W.heap.size W W5 := by
    rw [← hW5]
    exact ((HBW.out.trans (HB3.out.mono HS2.out)).trans (HB4.out.mono (by have := HS3.out; have := HS2.out; omega))).setCell (p := ⟨w2.heap.size, 9, none⟩) HS2.out _
  rw [hW5]
  clear m9 f9
  have ho5 : W5.ownsRow w2.heap.size 29 10 (.slice (some ⟨w2.heap.size, 0, none⟩) 1 1) 1 (tplNd n A c ns.length).cs :=
    ⟨rfl, .inr ⟨w2.heap.size, 1, (tplNd n A c ns.length).cs.toArray, rfl, Nat.le_refl _, q5, Nat.le_refl _, by decide, rfl, rfl⟩⟩
  have KP := Lib.hid (page_any W5)
  have hm5 : w2.heap.size < W5.heap.size := by omega
  have HO5 := Lib.hid ho5
  have HB5 := Lib.hid hb5
  have HM5 := Lib.hid hm5
  have HOA4 := Lib.hid (own_keep (own_keep HOA.out HB3.out) HB4.out)
  have HNA : Hid ((Value.slice A n.attrs.length c).ownBlock ≠ some w2.heap.size) := Lib.hid (row_neD HOA4.out HG4.out (by decide))
  have hfr5 : Frm (fun k => k = w2.heap.size) w4 W5 := by rw [← hW5]; exact Frm.set _ rfl
  have HFR5 := Lib.hid hfr5
  clear q5 hs5 hb5 ho5 hM HG4 hfr5 hW5
  unfold pageNd Nd.cs at KP
  simp only [List.length_nil] at KP
  go_wp2_with fail
  refine KP.out.mono ?_
  rintro e w6 ⟨rfl, hw6⟩
  have hb6 : Below W5.heap.size W5 w6 := by rw [hw6]; exact (Below.refl _ W5).alloc (Nat.le_refl _) _
  clear hw6
  obtain ⟨W7, hW7⟩ : ∃ W7, w6.alloc (.cells pageNd.cs.toArray 29) = W7 := ⟨_, rfl⟩
  have hb7 : Below w6.heap.size w6 W7 := by rw [← hW7]; exact (Below.refl _ w6).alloc (Nat.le_refl _) _
  have g7 : W7.heap[w6.heap.size]? = some (.cells pageNd.cs.toArray 29 (0, 0)) := by rw [← hW7]; exact heap_alloc_new w6 _
  have hb57 : Below W5.heap.size W5 W7 := hb6.trans (hb7.mono hb6.size)
  have HO7 := Lib.hid (own_keep HO5.out hb57)
  have HN7 := Lib.hid (cells_add g7)
  have HB57 := Lib.hid hb57
  have HBS7 := Lib.hid (show w2.heap.size ≤ W7.heap.size by have := hb57.size; omega)
  have H71 := Lib.hid (show 1 + 1 ≤ maxLen by decide)
  have H72 := Lib.hid (show (1 + 1) * 144 ≤ 140737488355328 by decide)
  unfold pageNd Nd.cs at hW7
  simp only [List.length_nil] at hW7
  clear g7 hb7 hb6 hb57 hm5 KP
  subst hW7
  go_upto_region 8 with (at_builtin; refine wpList_append_own_at _ rfl _ _ 40 rfl w2.heap.size 29 i0 _ 10 144 Try.underlying40 hi hz0 hz1 hz2 rfl (by decide) _ 1 (tplNd n A c ns.length).cs rfl HO7.out ⟨w6.heap.size, 0, none⟩ 1 1 pageNd.cs rfl rfl HN7.out page_one H71.out H72.out HBS7.out ?_; intro v8 w8 hown8 hg8 hz8 hblk8; clear hz8 hblk8)
  have hg8' : World.grownBy _ w8 (some w2.heap.size) := hg8
  obtain ⟨g8, c8, rfl⟩ : ∃ g c, v8 = .slice (some ⟨g, 0, none⟩) 2 c := by
    rcases hown8.2 with ⟨_, h⟩ | ⟨g, cap, cur, h, _⟩
    · omega
    · exact ⟨g, cap, h⟩
  have hb8 : Below W.heap.size W w8 := (HB5.out.trans (HB57.out.mono HB5.out.size)).grown hg8' (by have := HBS7.out; have := HS2.out; omega) (fun k e => by cases e; exact HS2.out)
  have hd8 := HD.out.below hb8
  have fr48 : Frm (fun k => k = w2.heap.size) w4 w8 := (HFR5.out.trans (Frm.below HB57.out)).trans (Frm.grown hg8' (fun k e => by cases e; rfl))
  have hoA8 := fr48.own HOA4.out (fun k e h => HNA.out (h ▸ e))
  have HNEW := Lib.hid (hown8.cells (g := g8) rfl)
  have c0 := hd8.cells.1
  have HDD := Lib.hid hd8.hd
  have HDL := Lib.hid hd8.lt
  have HNE := Lib.hid hd8.row_neD
  have HROW := Lib.hid hd8.row
  have H63 := Lib.hid (show ns.length + 2 ≤ maxLen by unfold maxLen; omega)
  have HBY := Lib.hid (show (ns.length + 2) * 144 ≤ 140737488355328 by omega)
  have HBZ := Lib.hid (show base ≤ w8.heap.size by have := HB.out; have := hb8.size; omega)
  have HONE := Lib.hid (show ∀ u ∈ (tplNd n A c ns.length).cs ++ pageNd.cs, u.oneCell' = true from fun u hu => by
    rcases List.mem_append.1 hu with h | h
    · simp only [tplNd, aloneNd, Nd.cs, List.mem_cons, List.not_mem_nil, or_false] at h
      rcases h with rfl | rfl | rfl | rfl | rfl | rfl | rfl | rfl | rfl | rfl <;> rfl
    · exact page_one u h)
  have HB8 := Lib.hid hb8
  have HOA8 := Lib.hid hoA8
  have HDOC := Lib.hid hd8
  clear hown8 hg8 hg8' hb8 hd8 fr48 hoA8
  go_wp2_with (at_builtin; refine wpList_append_own_at _ rfl _ _ 40 rfl base 29 i0 _ 10 144 Try.underlying40 hi hz0 hz1 hz2 rfl (by decide) _ ns.length (cellsN ns) rfl HROW.out ⟨g8, 0, none⟩ 2 c8 ((tplNd n A c ns.length).cs ++ pageNd.cs) rfl rfl HNEW.out HONE.out H63.out HBY.out HBZ.out ?_; intro v' w9 hown9 hgrow9 hz9 hblk9; clear hz9; obtain ⟨A9, c9, rfl⟩ := own_slice hown9; have hd9 := (hgrow9.block D HDL.out (fun e => HNE.out e.symm)).trans HDD.out; have fz9 : w9.frozen? ⟨D, 0, none⟩ = false := (by simp [World.frozen?, hd9]); have c09 : w9.cell? ⟨D, 0, none⟩ = some (.slice An ns.length cap) := (by rw [cell_of_row _ _ _ _ _ _ hd9]; rfl))
  go_ret
  clear c0 c09 fz9
  have hf9 : Frm (fun k => k = D ∨ (Value.slice An ns.length cap).ownBlock = some k) W (w9.setCell ⟨D, 0, none⟩ (.slice A9 (ns.length + 2) c9)) :=
    (Frm.trans (Frm.below HB8.out) (Frm.grown hgrow9 (fun k e => .inr e))).trans (Frm.set _ (.inl rfl))
  have hd10 : (w9.setCell ⟨D, 0, none⟩ (.slice A9 (ns.length + 2) c9)).heap[D]? = some (.cells #[.slice A9 (ns.length + 2) c9, .bool qk] 42 (0, 0)) := heap_setCell_same _ D 0 _ _ _ hd9
  have hne9 : (Value.slice A9 (ns.length + 2) c9).ownBlock ≠ some D := row_neD hown9 hd9 (by decide)
  have hr10 := (Frm.set (S := fun k => k = D) (A := w9) (p := ⟨D, 0, none⟩) (.slice A9 (ns.length + 2) c9) rfl).own hown9 (fun k e h => hne9 (h ▸ e))
  have hoA9 := (Frm.grown (S := fun k => (Value.slice An ns.length cap).ownBlock = some k) hgrow9 (fun k e => e)).own HOA8.out (fun k e h => rows_neN HOA8.out HROW.out (by decide) k e h)
  have hoA10 := (Frm.set (S := fun k => k = D) (A := w9) (p := ⟨D, 0, none⟩) (.slice A9 (ns.length + 2) c9) rfl).own hoA9 (fun k e h => row_neD hoA9 hd9 (by decide) (h ▸ e))
  refine ⟨rfl, A, c, .slice A9 (ns.length + 2) c9, ?_, hf9.mono (fun k h => by rcases h with h | h; exact .inl h; exact .inr (.inl h)), ?_⟩
  · refine HD.out.push hf9 hd10 (by simpa [cellsN] using hr10) ?_
    intro x hx
    simp at hx
    rcases hx with rfl | rfl
    · refine ⟨rfl, rfl, own_move hoA10 (fun _ _ => rfl) ?_⟩
      have := HB.out
      rw [World.size_alloc]
      omega
    · exact ⟨rfl, rfl, World.ownsRow_nil _ _ _ _⟩
  · refine DB.push ?_ ?_
    · rcases hblk9 with h | h
      · exact .inl h
      · exact .inr ⟨_, h, HB8.out.size⟩
    · intro x hx
      simp at hx
      rcases hx with rfl | rfl
      · refine ⟨rfl, fun k e => ?_⟩
        have := (HOA.out.lt k e).1
        rw [World.size_alloc] at this
        omega
      · exact ⟨rfl, fun k e => by cases e⟩
end
end Go.Proofs.Ytodlcfhkiilpgaa
namespace Go.Proofs.Ytodlcfhkiilpgaa
open Go.RowKit Go.Lib

section
variable {base D : Nat} {v : Value} {qk : Bool} {ns : List Nd}
/-- an element's name -/
def nmN (x : Nd) : ByteArray := if x.kind == 2 then x.name else ⟨#[]⟩
theorem name_any (n : Int) (W : World) (h : DocM base D v qk ns W) : Calls Try.prog 57 #[.pointer (some ⟨D, 0, none⟩), .int .i64 n] W fun e W' => e = .returned (.string (atN ns n nmN ⟨#[]⟩)) ∧ W' = W := by
  have KK := Lib.hid (kind_any n W h)
  cases hn : inN ns n with
  | false =>
    rw [atN_none hn] at KK ⊢
    clear h hn
    go_enter Try.func57, Try.ntmps57
    go_wp2_with fail
    refine KK.out.mono ?_
    rintro e w1 ⟨rfl, rfl⟩
    go_wp2
    go_ret
    exact ⟨rfl, rfl⟩
  | true =>
    obtain ⟨i, x, rfl, hx⟩ := inN_at hn
    rw [atN_some hx] at KK ⊢
    obtain ⟨A, cap, rfl, hle, hmx, hg⟩ := h.sl
    have hi := (List.getElem?_eq_some_iff.1 hx).1
    obtain ⟨g, rfl, _, _⟩ := hg (by omega)
    have c0 := h.cells.1
    have k0 : W.cell? ⟨g, i * 10 + 2, none⟩ = some (.string x.name) := h.cell hx (show 2 < 10 by omega)
    unfold maxLen at hmx
    clear h hx hg hn
    unfold nmN
    cases hk : (x.kind == 2) with
    | false =>
      go_enter Try.func57, Try.ntmps57
      go_wp2_with fail
      refine KK.out.mono ?_
      rintro e w1 ⟨rfl, rfl⟩
      go_wp2
      go_ret
      exact ⟨rfl, rfl⟩
    | true =>
      go_enter Try.func57, Try.ntmps57
      go_wp2_with fail
      refine KK.out.mono ?_
      rintro e w1 ⟨rfl, rfl⟩
      go_wp2
      go_ret
      exact ⟨rfl, rfl⟩
end
end Go.Proofs.Ytodlcfhkiilpgaa
