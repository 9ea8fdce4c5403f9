/- Trees in memory: a row of nodes of ten cells each, and each node's own row of kids. -/
import Derived.Test.YtfkbjniodomdjaaKa
import Derived.Test.YtfkbjniodomdjaaFm
import Derived.Laws.OwnMore
namespace Go.Proofs.Ytfkbjniodomdjaa
open Go.RowKit Go.Lib

/-- a node: what it is, its attributes (where they lie), its place, its kids (where they lie) -/
structure Nd where
  kind : Int
  space : Int
  name : ByteArray
  data : ByteArray
  aA : Option Addr
  attrs : List Atr
  ac : Nat
  pub : ByteArray
  sys : ByteArray
  up : Int
  kv : Value
  kids : List Int
  inner : Int
def Nd.cs (n : Nd) : List Value := [.int .i64 n.kind, .int .i64 n.space, .string n.name, .string n.data, .slice n.aA n.attrs.length n.ac, .string n.pub, .string n.sys, .int .i64 n.up, n.kv, .int .i64 n.inner]
def cellsN (ns : List Nd) : List Value := ns.flatMap Nd.cs
theorem cellsN_len (ns : List Nd) : (cellsN ns).length = ns.length * 10 := by
  unfold cellsN
  induction ns with
  | nil => rfl
  | cons x xs ih => rw [List.flatMap_cons, List.length_append, ih]; simp [Nd.cs]; omega
theorem cellsN_snoc (xs ys : List Nd) : cellsN (xs ++ ys) = cellsN xs ++ cellsN ys := by simp [cellsN]
theorem cellsN_get (ns : List Nd) : ∀ (i : Nat) (x : Nd) (j : Nat), ns[i]? = some x → j < 10 → (cellsN ns)[i * 10 + j]? = x.cs[j]? := by
  induction ns with
  | nil => intro i x j h; simp at h
  | cons y ns ih =>
    intro i x j h hj
    have hc : cellsN (y :: ns) = y.cs ++ cellsN ns := rfl
    have hl : y.cs.length = 10 := rfl
    rw [hc]
    cases i with
    | zero =>
      simp at h
      subst h
      rw [List.getElem?_append_left (by omega)]
      simp
    | succ i =>
      rw [List.getElem?_append_right (by omega), hl, show (i + 1) * 10 + j - 10 = i * 10 + j by omega]
      exact ih i x j (by simpa using h) hj
/-- a node's attributes, as a value -/
def Nd.av (x : Nd) : Value := .slice x.aA x.attrs.length x.ac
/-- a tree in memory: its block D, its row of nodes, each node's kids and attributes in rows of their own -/
structure DocM (base D : Nat) (v : Value) (qk : Bool) (ns : List Nd) (W : World) : Prop where
  hd : W.heap[D]? = some (.cells #[v, .bool qk] 49 (0, 0))
  row : W.ownsRow base 53 10 v ns.length (cellsN ns)
  kids : ∀ (i : Nat) (x : Nd), ns[i]? = some x → W.ownsRow base 3 1 x.kv x.kids.length (x.kids.map (Value.int .i64))
  attrs : ∀ (i : Nat) (x : Nd), ns[i]? = some x → W.ownsRow base 57 2 x.av x.attrs.length (cellsA x.attrs)
  apart : ∀ (i j : Nat) (x y : Nd) (g : Nat), ns[i]? = some x → ns[j]? = some y → x.kv.ownBlock = some g → y.kv.ownBlock = some g → i = j
  ge : base ≤ D
/-- the blocks of a tree -/
def DB (D : Nat) (v : Value) (ns : List Nd) (k : Nat) : Prop := k = D ∨ v.ownBlock = some k ∨ ∃ (i : Nat) (x : Nd), ns[i]? = some x ∧ (x.kv.ownBlock = some k ∨ x.av.ownBlock = some k)
section
variable {base D : Nat} {v : Value} {qk : Bool} {ns : List Nd} {W W' : World}
theorem DocM.lt (h : DocM base D v qk ns W) : D < W.heap.size := (Array.getElem?_eq_some_iff.1 h.hd).1
theorem DocM.cells (h : DocM base D v qk ns W) : W.cell? ⟨D, 0, none⟩ = some v ∧ W.cell? ⟨D, 1, none⟩ = some (.bool qk) ∧ W.frozen? ⟨D, 0, none⟩ = false := by
  refine ⟨?_, ?_, ?_⟩
  · rw [cell_of_row _ _ _ _ _ _ h.hd]; rfl
  · rw [cell_of_row _ _ _ _ _ _ h.hd]; rfl
  · simp [World.frozen?, h.hd]
/-- the row's value, and where it lies -/
theorem DocM.sl (h : DocM base D v qk ns W) : ∃ A cap, v = .slice A ns.length cap ∧ ns.length ≤ cap ∧ cap ≤ maxLen ∧ (0 < ns.length → ∃ g, A = some ⟨g, 0, none⟩ ∧ base ≤ g ∧ g < W.heap.size) := by
  rcases h.row.2 with ⟨h1, h0⟩ | ⟨g, cap, cur, h1, hb, hg, hn, hm, _⟩
  · exact ⟨none, 0, by rw [h1, h0], by omega, Nat.zero_le _, fun hp => by omega⟩
  · exact ⟨_, cap, h1, hn, hm, fun _ => ⟨g, rfl, hb, (Array.getElem?_eq_some_iff.1 hg).1⟩⟩
/-- one field of one node -/
theorem DocM.cell {g cap i j : Nat} {x : Nd} (h : DocM base D (.slice (some ⟨g, 0, none⟩) ns.length cap) qk ns W) (hx : ns[i]? = some x) (hj : j < 10) : W.cell? ⟨g, i * 10 + j, none⟩ = x.cs[j]? := by
  have hi := (List.getElem?_eq_some_iff.1 hx).1
  rw [h.row.cellAt (i * 10 + j) (by omega), cellsN_get ns i x j hx hj]
theorem DocM.keep {S : Nat → Prop} (h : DocM base D v qk ns W) (hf : Frm S W W') (hS : ∀ k, DB D v ns k → ¬ S k) : DocM base D v qk ns W' :=
  ⟨(hf.block D h.lt (hS D (.inl rfl))).trans h.hd, hf.own h.row (fun k e => hS k (.inr (.inl e))), fun i x hx => hf.own (h.kids i x hx) (fun k e => hS k (.inr (.inr ⟨i, x, hx, .inl e⟩))),
    fun i x hx => hf.own (h.attrs i x hx) (fun k e => hS k (.inr (.inr ⟨i, x, hx, .inr e⟩))), h.apart, h.ge⟩
theorem DocM.below (h : DocM base D v qk ns W) (hb : Below W.heap.size W W') : DocM base D v qk ns W' := h.keep (S := fun _ => False) (Frm.below hb) (fun _ _ h => h)
theorem DocM.in_ (h : DocM base D v qk ns W) : ∀ k, DB D v ns k → base ≤ k ∧ k < W.heap.size := by
  rintro k (rfl | e | ⟨i, x, hx, e | e⟩)
  · exact ⟨h.ge, h.lt⟩
  · exact h.row.lt k e
  · exact (h.kids i x hx).lt k e
  · exact (h.attrs i x hx).lt k e
theorem DocM.mono {base' : Nat} (h : DocM base D v qk ns W) (hb : base' ≤ base) : DocM base' D v qk ns W :=
  have m : ∀ {t s n : Nat} {u : Value} {vs : List Value}, W.ownsRow base t s u n vs → W.ownsRow base' t s u n vs := fun h => ⟨h.1, by
    rcases h.2 with h2 | ⟨g, cap, xs, h3, h4, h5⟩
    · exact .inl h2
    · exact .inr ⟨g, cap, xs, h3, Nat.le_trans hb h4, h5⟩⟩
  ⟨h.hd, m h.row, fun i x hx => m (h.kids i x hx), fun i x hx => m (h.attrs i x hx), h.apart, Nat.le_trans hb h.ge⟩
/-- two rows of unlike elements lie in unlike blocks -/
theorem rows_neN {b1 b2 s1 s2 n1 n2 : Nat} {e1 e2 : TypeId} {v1 v2 : Value} {xs ys : List Value} (h1 : W.ownsRow b1 e1 s1 v1 n1 xs) (h2 : W.ownsRow b2 e2 s2 v2 n2 ys) (he : e1 ≠ e2) : ∀ k, v1.ownBlock = some k → v2.ownBlock ≠ some k := by
  intro k ha hb
  rcases h1.2 with ⟨rfl, _⟩ | ⟨g, cap, cur, rfl, _, hg, _⟩
  · cases ha
  rcases h2.2 with ⟨rfl, _⟩ | ⟨g', cap', cur', rfl, _, hg', _⟩
  · cases hb
  simp [Value.ownBlock] at ha hb
  subst ha
  subst hb
  rw [hg] at hg'
  injection hg' with this
  injection this with _ this
  exact he this
theorem row_neD {b1 s1 n1 g : Nat} {e1 t : TypeId} {v1 : Value} {xs : List Value} {cs : Array Value} (h1 : W.ownsRow b1 e1 s1 v1 n1 xs) (hg0 : W.heap[g]? = some (.cells cs t (0, 0))) (he : e1 ≠ t) : v1.ownBlock ≠ some g := by
  intro ha
  rcases h1.2 with ⟨rfl, _⟩ | ⟨g', cap, cur, rfl, _, hg, _⟩
  · cases ha
  simp [Value.ownBlock] at ha
  subst ha
  rw [hg0] at hg
  injection hg with this
  injection this with _ this
  exact he this.symm
/-- a node's attributes, as they read -/
theorem DocM.atr {i : Nat} {x : Nd} (h : DocM base D v qk ns W) (hx : ns[i]? = some x) : RdA W x.aA x.attrs ∧ (x.aA = none → x.attrs = [] ∧ x.ac = 0) ∧ x.attrs.length ≤ x.ac ∧ x.ac ≤ maxLen := by
  have ho := h.attrs i x hx
  obtain ⟨A, cap, e1, hl, hc, hn, hr⟩ := RdA.own ho
  unfold Nd.av at e1
  injection e1 with e1 e2 e3
  subst e1 e3
  refine ⟨hr, fun e => ⟨?_, hn e⟩, hc, ?_⟩
  · rw [hn e] at hc
    exact List.eq_nil_of_length_eq_zero (by omega)
  · rcases ho.2 with ⟨h1, h0⟩ | ⟨g, cap, cur, h1, hb, hg, hn, hm, _⟩
    · unfold Nd.av at h1
      injection h1 with _ _ h3
      omega
    · unfold Nd.av at h1
      injection h1 with _ _ h3
      omega
end
end Go.Proofs.Ytfkbjniodomdjaa
