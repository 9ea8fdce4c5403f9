/- Slices of integers in memory, nil let in. Rows of bytes: slices that come in, rows of the call's own, strings of them. What a call may turn: blocks of a set, and new ones. Lists of attributes, plain: the first of a name, one set, left out, once. -/
import Derived.WalkKit
import Derived.Below
import Derived.Deep.Draws
import Derived.Test.YtodlcfhkiilpgaaProg
import Derived.Lib.Hide
import Derived.Lib.AppendStr
import Derived.Laws.AppendOwn
import Derived.Laws.AppendOwnNone
import Derived.Laws.BytesArg
import Derived.Laws.IdiomStrings
import Derived.Laws.BitsAllLaws
import Derived.OwnWalk
import Derived.Shelf.Spec.RuneCount
namespace Go.Proofs.Ytodlcfhkiilpgaa
open Go.RowKit

/-- the slice at A holds xs -/
def Rd (w : World) (k : IntKind) (A : Option Addr) (xs : List Int) : Prop :=
  xs = [] ∨ ∃ b off, A = some ⟨b, off, none⟩ ∧ b < w.heap.size ∧ ∀ i, i < xs.length → w.cell? ⟨b, off + i, none⟩ = some (.int k (xs[i]?.getD 0))

theorem Rd.keep {w w' : World} {k : IntKind} {A : Option Addr} {xs : List Int} (h : Rd w k A xs) (hs : w.heap.size ≤ w'.heap.size) (hc : ∀ p : Addr, p.block < w.heap.size → w'.cell? p = w.cell? p) : Rd w' k A xs := by
  rcases h with h | ⟨b, off, rfl, hb, h⟩
  · exact .inl h
  · exact .inr ⟨b, off, rfl, by omega, fun i hi => (hc _ hb).trans (h i hi)⟩
theorem Rd.below {w w' : World} {k : IntKind} {A : Option Addr} {xs : List Int} (h : Rd w k A xs) (hb : Below w.heap.size w w') : Rd w' k A xs :=
  h.keep hb.size fun _ hp => hb.cell hp
theorem Rd.pos {w : World} {k : IntKind} {A : Option Addr} {xs : List Int} (h : Rd w k A xs) (hx : 0 < xs.length) :
    ∃ b off, A = some ⟨b, off, none⟩ ∧ b < w.heap.size ∧ ∀ i, i < xs.length → w.cell? ⟨b, off + i, none⟩ = some (.int k (xs[i]?.getD 0)) := by
  rcases h with rfl | h
  · simp at hx
  · exact h
theorem below_drewN {B : Nat} {a w : World} (h : Below B a w) (n : Nat) : Below B a (w.drewN n) := ⟨h.os, h.tape, h.output, h.size, h.block⟩
theorem bcell {W w1 : World} (hb : Below W.heap.size W w1) : (∀ b o, b < W.heap.size → w1.cell? ⟨b, o, none⟩ = W.cell? ⟨b, o, none⟩) ∧ (∀ b o, b < W.heap.size → w1.frozen? ⟨b, o, none⟩ = W.frozen? ⟨b, o, none⟩) :=
  ⟨fun b o h => hb.cell (p := ⟨b, o, none⟩) h, fun b o h => hb.frozen (p := ⟨b, o, none⟩) h⟩
theorem Below.up {B B' : Nat} {w w' : World} (h : Below B' w w') (hB : B ≤ B') : Below B w w' := h.mono hB

/-- what a call gives that answers a slice: it reads as xs, and what lay there lies as it lay -/
def Gives (k : IntKind) (xs : List Int) (w : World) (e : Ending) (w' : World) : Prop :=
  ∃ A cap, e = .returned (.slice A xs.length cap) ∧ Rd w' k A xs ∧ xs.length ≤ cap ∧ (A = none → cap = 0) ∧ Below w.heap.size w w'

end Go.Proofs.Ytodlcfhkiilpgaa
namespace Go.Proofs.Ytodlcfhkiilpgaa
open Go.RowKit

theorem infoU8 : (Try.prog.info? 5).map (fun i => (i.zero, i.size, i.bytes)) = some (some (.int .u8 0), 1, 1) := by kernel_rfl

theorem cells_new (w : World) (l : List Value) (t : TypeId) : ∀ j u, l[j]? = some u → (w.alloc (.cells l.toArray t)).cell? ((⟨w.heap.size, 0, none⟩ : Addr).add j) = some u := by
  intro j u hu
  have : (⟨w.heap.size, 0, none⟩ : Addr).add j = ⟨w.heap.size, j, none⟩ := by unfold Addr.add; split <;> simp_all
  rw [this, World.cell?_alloc_new]
  simpa using hu
theorem ints_one {k : IntKind} (l : List Int) : ∀ u ∈ l.map (Value.int k), u.oneCell' = true := by
  intro u hu
  simp at hu
  obtain ⟨z, _, rfl⟩ := hu
  rfl
theorem Rd.add {w : World} {k : IntKind} {ad : Addr} {xs : List Int} (h : Rd w k (some ad) xs) : ∀ j u, (xs.map (Value.int k))[j]? = some u → w.cell? (ad.add j) = some u := by
  intro j u hu
  rcases h with rfl | ⟨b, off, hA, hb, hc⟩
  · simp at hu
  · obtain rfl : ad = ⟨b, off, none⟩ := by injection hA
    have hj : j < xs.length := by
      rcases Nat.lt_or_ge j xs.length with hlt | hge
      · exact hlt
      · rw [List.getElem?_eq_none (by simpa using hge)] at hu; cases hu
    rw [List.getElem?_map, List.getElem?_eq_getElem hj] at hu
    have h2 := hc j hj
    rw [List.getElem?_eq_getElem hj, Option.getD_some] at h2
    simp only [Option.map_some, Option.some.injEq] at hu
    rw [← hu, ← h2]
    rcases Nat.eq_zero_or_pos j with rfl | hj0
    · simp [Addr.add]
    · simp [Addr.add, Nat.ne_of_gt hj0]
theorem Rd.own {w : World} {k : IntKind} {base : Nat} {e : TypeId} {v : Value} {n : Nat} {xs : List Int} (h : w.ownsRow base e 1 v n (xs.map (Value.int k))) : ∃ A cap, v = .slice A xs.length cap ∧ xs.length = n ∧ n ≤ cap ∧ (A = none → cap = 0) ∧ Rd w k A xs := by
  have hl : xs.length = n := by have := h.1; simpa using this
  subst hl
  have hh := h
  rcases h.2 with ⟨rfl, hn⟩ | ⟨g, cap, cur, rfl, _, hg, hnc, _⟩
  · have hx : xs = [] := List.eq_nil_of_length_eq_zero hn
    subst hx
    exact ⟨none, 0, rfl, rfl, by simp, fun _ => rfl, .inl rfl⟩
  · refine ⟨some ⟨g, 0, none⟩, cap, rfl, rfl, hnc, (fun h => by cases h), .inr ⟨g, 0, rfl, (Array.getElem?_eq_some_iff.1 hg).1, fun i hi => ?_⟩⟩
    rw [Nat.zero_add, hh.cellAt i (by omega), List.getElem?_map, List.getElem?_eq_getElem hi]
    simp
theorem str_own {P : Program} {t e u : TypeId} (ht : P.underlying t = some (.slice e)) (he : P.underlying e = some (.int .u8)) (hu : P.underlying u = some .string) {w : World} {base n : Nat} {v : Value} {E : List Int} (h : w.ownsRow base e 1 v n (E.map (Value.int .u8))) :
    (convert t u v).run P w = .ok (.string (strOfNums E)) w := by
  obtain ⟨A, cap, rfl, hl, _, _, hrd⟩ := Rd.own h
  subst hl
  cases A with
  | none =>
    have hE : E = [] := by
      rcases hrd with h | ⟨b, off, h, _⟩
      · exact h
      · cases h
    subst hE
    exact run_convert_bytes_nil w t e ht he 0 cap u hu
  | some ad =>
    rcases hrd with hE | ⟨b, off, hA, _, hc⟩
    · subst hE
      rcases h.2 with ⟨h', _⟩ | ⟨g, cap', cur, h', _⟩
      · cases h'
      · injection h' with h1 h2 h3
        cases h1
        exact run_convert_bytes_arg w t e ht he g 0 0 cap [] rfl (fun i hi => by omega) u hu
    · injection hA with hA
      subst hA
      exact run_convert_bytes_arg w t e ht he b off E.length cap E rfl (fun i hi => by rw [hc i hi]; simp) u hu
/-- append of a slice that may be nil onto an owned row -/
theorem wpList_append_rd {P : Program} {w : World} {ops : Array Oper} {rest : List Oper} {o : Oper} {a : Act} {Q : Exit → Act → World → Prop} {s x : Operand} (hgd : o.guard = none) (t : TypeId)
    (ho : o.op = .call { callee := .builtin .append, args := #[s, x], argTypes := #[t, t] })
    (base : Nat) (e : TypeId) (i : TypeInfo) (z : Value) (bytes : Nat) (ht : P.underlying t = some (.slice e)) (hi : P.info? e = some i) (hz : i.zero = some z) (hsize : i.size = 1) (hby : i.bytes = bytes)
    (v : Value) (n : Nat) (xs : List Value) (hs : a.eval s = v) (hown : w.ownsRow base e 1 v n xs)
    (A : Option Addr) (m c : Nat) (hx : a.eval x = .slice A m c) (news : List Int) (k : IntKind) (hm : news.length = m) (hrd : Rd w k A news) (hnone : A = none → c = 0) (hzs : z.cells.size = 1)
    (h63 : n + m ≤ maxLen) (hbytes : (n + m) * bytes ≤ 140737488355328) (hbase : base ≤ w.heap.size)
    (h : ∀ v' w', w'.ownsRow base e 1 v' (n + m) (xs ++ news.map (Value.int k)) → w.grownBy w' v.ownBlock → wpList P ops Q rest (a.put o.dst v') w') : wpList P ops Q (o :: rest) a w := by
  cases A with
  | none =>
    have hn : news = [] := by
      rcases hrd with h | ⟨b, off, h, _⟩
      · exact h
      · cases h
    subst hn
    obtain rfl : m = 0 := by simpa using hm.symm
    obtain rfl : c = 0 := hnone rfl
    exact wpList_append_own_none hgd s x t ho base e i 1 ht hi v n xs hs hown hx (h v w (by simpa using hown) ⟨rfl, rfl, rfl, Nat.le_refl _, fun _ _ _ => rfl⟩)
  | some ad =>
    exact wpList_append_own w hgd s x t ho base e i z 1 bytes ht hi hz hsize hby hzs (by decide) v n xs hs hown ad m c (news.map (Value.int k)) hx (by simp [hm]) hrd.add (ints_one news) h63 hbytes hbase (fun v' w' h1 h2 _ => h v' w' h1 h2)

theorem own_keep {w w' : World} {base sz n : Nat} {e : TypeId} {v : Value} {xs : List Value} (h : w.ownsRow base e sz v n xs) (hb : Below w.heap.size w w') : w'.ownsRow base e sz v n xs :=
  h.kept (row := none) ⟨hb.os, hb.tape, hb.output, hb.size, fun k hk _ => hb.block k hk⟩ (by cases v.ownBlock <;> simp)
theorem own_far {w w' : World} {base sz n : Nat} {e : TypeId} {v : Value} {xs : List Value} {row : Option Nat} (h : w.ownsRow base e sz v n xs) (hg : w.grownBy w' row) (hne : ∀ g, v.ownBlock = some g → row = some g → False) : w'.ownsRow base e sz v n xs :=
  h.kept hg (by
    cases hv : v.ownBlock with
    | none => exact .inl rfl
    | some g => exact .inr (fun e => hne g hv e.symm))

/-- a string's bytes as numbers -/
def bs (s : ByteArray) : List Int := s.data.toList.map fun c => (c.toNat : Int)
theorem bs_len (s : ByteArray) : (bs s).length = s.size := by simp [bs]
theorem bs_rng (s : ByteArray) : ∀ x ∈ bs s, 0 ≤ x ∧ x ≤ 255 := by
  intro x hx
  simp only [bs, List.mem_map] at hx
  obtain ⟨c, _, rfl⟩ := hx
  have := c.toNat_lt
  omega
theorem bs_str {E : List Int} (h : ∀ x ∈ E, 0 ≤ x ∧ x ≤ 255) : bs (strOfNums E) = E := by
  unfold bs
  rw [strOfNums_data, List.map_map]
  conv => rhs; rw [← List.map_id E]
  refine List.map_congr_left fun x hx => ?_
  have := h x hx
  simp
  omega
theorem str_bs (s : ByteArray) : strOfNums (bs s) = s := strOfNums_bytes s
theorem str_inj {E F : List Int} (hE : ∀ x ∈ E, 0 ≤ x ∧ x ≤ 255) (hF : ∀ x ∈ F, 0 ≤ x ∧ x ≤ 255) (h : strOfNums E = strOfNums F) : E = F := by
  rw [← bs_str hE, ← bs_str hF, h]
theorem bs_inj {s t : ByteArray} (h : bs s = bs t) : s = t := by rw [← str_bs s, ← str_bs t, h]
theorem bs_get (s : ByteArray) (k : Nat) (h : k < s.size) : (bs s)[k]? = some ((s[k]'h).toNat : Int) := by
  unfold bs
  rw [List.getElem?_map, List.getElem?_eq_getElem (by simpa using h)]
  rfl
theorem bs_drop (s : ByteArray) (k : Nat) (h : k < s.size) : (bs s).drop k = ((s[k]'h).toNat : Int) :: (bs s).drop (k + 1) := by
  have hl : k < (bs s).length := by rw [bs_len]; exact h
  rw [List.drop_eq_getElem_cons hl]
  congr 1
  have := bs_get s k h
  rw [List.getElem?_eq_getElem hl] at this
  exact Option.some.inj this
theorem bs_cells (s : ByteArray) : Lib.strCells s = (bs s).map (Value.int .u8) := by
  simp [Lib.strCells, bs]

end Go.Proofs.Ytodlcfhkiilpgaa
namespace Go.Proofs.Ytodlcfhkiilpgaa
open Go.RowKit Go.Lib

/-- only blocks of S have turned -/
structure Frm (S : Nat → Prop) (W W' : World) : Prop where
  os : W'.os = W.os
  tape : W'.tape = W.tape
  output : W'.output = W.output
  size : W.heap.size ≤ W'.heap.size
  block : ∀ k, k < W.heap.size → ¬ S k → W'.heap[k]? = W.heap[k]?
theorem Frm.refl (S : Nat → Prop) (W : World) : Frm S W W := ⟨rfl, rfl, rfl, Nat.le_refl _, fun _ _ _ => rfl⟩
theorem Frm.trans {S : Nat → Prop} {A B C : World} (h1 : Frm S A B) (h2 : Frm S B C) : Frm S A C :=
  ⟨h2.os.trans h1.os, h2.tape.trans h1.tape, h2.output.trans h1.output, Nat.le_trans h1.size h2.size, fun k hk hn => (h2.block k (Nat.lt_of_lt_of_le hk h1.size) hn).trans (h1.block k hk hn)⟩
/-- the second may turn what is new for the first -/
theorem Frm.trans' {S S' : Nat → Prop} {A B C : World} (h1 : Frm S A B) (h2 : Frm S' B C) (hS : ∀ k, S' k → S k ∨ A.heap.size ≤ k) : Frm S A C :=
  ⟨h2.os.trans h1.os, h2.tape.trans h1.tape, h2.output.trans h1.output, Nat.le_trans h1.size h2.size, fun k hk hn => (h2.block k (Nat.lt_of_lt_of_le hk h1.size) (fun h => by rcases hS k h with h | h; exact hn h; omega)).trans (h1.block k hk hn)⟩
theorem Frm.mono {S S' : Nat → Prop} {A B : World} (h : Frm S A B) (hS : ∀ k, S k → S' k) : Frm S' A B := ⟨h.os, h.tape, h.output, h.size, fun k hk hn => h.block k hk (fun hs => hn (hS k hs))⟩
theorem Frm.grown {S : Nat → Prop} {A B : World} {row : Option Nat} (h : A.grownBy B row) (hS : ∀ k, row = some k → S k) : Frm S A B :=
  ⟨h.os, h.tape, h.output, h.size, fun k hk hn => h.block k hk (fun e => hn (hS k e.symm))⟩
theorem Frm.below {S : Nat → Prop} {A B : World} (h : Below A.heap.size A B) : Frm S A B := ⟨h.os, h.tape, h.output, h.size, fun k hk _ => h.block k hk⟩
theorem Frm.alloc (S : Nat → Prop) (A : World) (o : Obj) : Frm S A (A.alloc o) := Frm.grown (World.grownBy_alloc A o none) (fun k e => by cases e)
theorem Frm.drewN (S : Nat → Prop) (A : World) (q : Nat) : Frm S A (A.drewN q) := ⟨rfl, rfl, rfl, Nat.le_refl _, fun _ _ _ => rfl⟩
theorem grown_setCellT (W : World) (p : Addr) (v : Value) : W.grownBy (W.setCell p v) (some p.block) :=
  ⟨rfl, rfl, rfl, by simp [World.setCell], fun k _ hk => Below.heap_setCell W p v k (fun e => hk (by rw [e]))⟩
theorem Frm.set {S : Nat → Prop} {A : World} {p : Addr} (v : Value) (hp : S p.block) : Frm S A (A.setCell p v) :=
  Frm.grown (grown_setCellT A p v) (fun k e => by cases e; exact hp)
theorem Frm.toBelow {S : Nat → Prop} {A B : World} {n : Nat} (h : Frm S A B) (hn : n ≤ A.heap.size) (hS : ∀ k, S k → n ≤ k) : Below n A B :=
  ⟨h.os, h.tape, h.output, h.size, fun k hk => h.block k (by omega) (fun hs => by have := hS k hs; omega)⟩
theorem Frm.own {S : Nat → Prop} {A B : World} {base sz n : Nat} {e : TypeId} {v : Value} {xs : List Value} (h : Frm S A B) (ho : A.ownsRow base e sz v n xs) (hv : ∀ k, v.ownBlock = some k → ¬ S k) : B.ownsRow base e sz v n xs := by
  refine ⟨ho.1, ?_⟩
  rcases ho.2 with hn | ⟨g, cap, cur, rfl, hb, hgg, rest⟩
  · exact .inl hn
  · exact .inr ⟨g, cap, cur, rfl, hb, (h.block g (Array.getElem?_eq_some_iff.1 hgg).1 (hv g rfl)).trans hgg, rest⟩
theorem Frm.cell {S : Nat → Prop} {A B : World} (h : Frm S A B) {p : Addr} (hp : p.block < A.heap.size) (hn : ¬ S p.block) : B.cell? p = A.cell? p := World.cell?_of_block (a := p) (h.block p.block hp hn)
end Go.Proofs.Ytodlcfhkiilpgaa
namespace Go.Proofs.Ytodlcfhkiilpgaa

abbrev Atr := ByteArray × ByteArray
/-- the same bytes -/
def sm (a b : ByteArray) : Bool := a.toList == b.toList
theorem sm_iff {a b : ByteArray} : sm a b = true ↔ a = b := by
  unfold sm
  rw [beq_iff_eq, ByteArray.toList_eq, ByteArray.toList_eq]
  constructor
  · intro h
    cases a; cases b
    simp at h
    rw [h]
  · rintro rfl; rfl
theorem sm_self (a : ByteArray) : sm a a = true := sm_iff.2 rfl
theorem sm_ne {a b : ByteArray} : sm a b = false ↔ a ≠ b := by
  rw [← Bool.not_eq_true, sm_iff]
theorem sm_comm (a b : ByteArray) : sm a b = sm b a := by
  rw [Bool.eq_iff_iff, sm_iff, sm_iff]
  exact ⟨Eq.symm, Eq.symm⟩
def hs (s : ByteArray) (x : Atr) : Bool := sm x.1 s
theorem hs_iff {s : ByteArray} {x : Atr} : hs s x = true ↔ x.1 = s := sm_iff
theorem hs_ne {s : ByteArray} {x : Atr} : hs s x = false ↔ x.1 ≠ s := sm_ne

/-- where the first of a name stands; how many there are, if none does -/
def pl (xs : List Atr) (s : ByteArray) : Nat := xs.findIdx (hs s)
theorem pl_le (xs : List Atr) (s : ByteArray) : pl xs s ≤ xs.length := List.findIdx_le_length
theorem pl_hit {xs : List Atr} {s : ByteArray} {k : Nat} {x : Atr} (hk : xs[k]? = some x) (h : hs s x = true) (hn : ∀ (j : Nat) (y : Atr), j < k → xs[j]? = some y → hs s y = false) : pl xs s = k := by
  have hl := (List.getElem?_eq_some_iff.1 hk).1
  unfold pl
  rw [List.findIdx_eq hl]
  refine ⟨?_, fun j hj => hn j _ hj (List.getElem?_eq_getElem (by omega))⟩
  rw [List.getElem?_eq_getElem hl] at hk
  rw [Option.some.inj hk]; exact h
theorem pl_miss {xs : List Atr} {s : ByteArray} (hn : ∀ (j : Nat) (y : Atr), xs[j]? = some y → hs s y = false) : pl xs s = xs.length := by
  unfold pl
  rw [List.findIdx_eq_length]
  intro x hx
  obtain ⟨j, hj, rfl⟩ := List.getElem_of_mem hx
  exact hn j _ (List.getElem?_eq_getElem hj)
theorem pl_at {xs : List Atr} {s : ByteArray} (h : pl xs s < xs.length) : ∃ x, xs[pl xs s]? = some x ∧ x.1 = s :=
  ⟨_, List.getElem?_eq_getElem h, hs_iff.1 (List.findIdx_getElem (w := h))⟩
theorem pl_before {xs : List Atr} {s : ByteArray} {j : Nat} {y : Atr} (h : j < pl xs s) (hy : xs[j]? = some y) : hs s y = false := by
  have hj := (List.getElem?_eq_some_iff.1 hy).1
  rw [List.getElem?_eq_getElem hj] at hy
  rw [← Option.some.inj hy]
  exact List.not_of_lt_findIdx h |> fun h => by simpa using h
/-- the place, below 0 if there is none -/
def fst (xs : List Atr) (s : ByteArray) : Int := if pl xs s < xs.length then pl xs s else -1
theorem fst_hit {xs : List Atr} {s : ByteArray} (h : pl xs s < xs.length) : fst xs s = pl xs s := if_pos h
theorem fst_miss {xs : List Atr} {s : ByteArray} (h : ¬ pl xs s < xs.length) : fst xs s = -1 := if_neg h
theorem find_pl (xs : List Atr) (s : ByteArray) : xs[pl xs s]? = xs.find? (hs s) := by
  induction xs with
  | nil => rfl
  | cons x xs ih =>
    unfold pl at ih ⊢
    rw [List.findIdx_cons, List.find?_cons]
    cases h : hs s x with
    | true => rfl
    | false => simpa using ih
theorem find_fst {xs : List Atr} {s : ByteArray} {x : Atr} (h : xs.find? (hs s) = some x) : pl xs s < xs.length ∧ fst xs s = pl xs s ∧ xs[pl xs s]? = some x := by
  rw [← find_pl] at h
  have hl := (List.getElem?_eq_some_iff.1 h).1
  exact ⟨hl, fst_hit hl, h⟩
theorem find_none {xs : List Atr} {s : ByteArray} (h : xs.find? (hs s) = none) : ¬ pl xs s < xs.length ∧ fst xs s = -1 := by
  rw [← find_pl, List.getElem?_eq_none_iff] at h
  exact ⟨by omega, fst_miss (by omega)⟩

def setL (xs : List Atr) (s v : ByteArray) : List Atr := if pl xs s < xs.length then xs.set (pl xs s) (s, v) else xs ++ [(s, v)]
theorem find_setL (xs : List Atr) (s v : ByteArray) : (setL xs s v).find? (hs s) = some (s, v) := by
  have hv : hs s (s, v) = true := hs_iff.2 rfl
  unfold setL
  split
  · rename_i h
    have hp : pl (xs.set (pl xs s) (s, v)) s = pl xs s := by
      refine pl_hit (x := (s, v)) (by simp [h]) hv (fun j y hj hy => ?_)
      rw [List.getElem?_set_ne (by omega)] at hy
      exact pl_before hj hy
    rw [← find_pl, hp]
    simp [h]
  · rename_i h
    rw [List.find?_append]
    have : xs.find? (hs s) = none := by
      rw [← find_pl]
      exact List.getElem?_eq_none (by omega)
    rw [this]
    simp [hv]
def wout (xs : List Atr) (s : ByteArray) : List Atr := xs.filter fun x => !hs s x
theorem find_wout (xs : List Atr) (s : ByteArray) : (wout xs s).find? (hs s) = none := by
  rw [List.find?_eq_none]
  intro x hx
  simp only [wout, List.mem_filter] at hx
  simpa using hx.2
theorem wout_snoc (xs : List Atr) (x : Atr) (s : ByteArray) : wout (xs ++ [x]) s = wout xs s ++ if hs s x then [] else [x] := by
  unfold wout
  rw [List.filter_append]
  cases h : hs s x <;> simp [h]

/-- without those whose name was there already -/
def once (xs : List Atr) : List Atr := xs.foldl (fun acc x => if acc.any (hs x.1) then acc else acc ++ [x]) []
theorem once_snoc (xs : List Atr) (x : Atr) : once (xs ++ [x]) = if (once xs).any (hs x.1) then once xs else once xs ++ [x] := by
  unfold once
  rw [List.foldl_append]
  rfl
theorem snocRec {P : List Atr → Prop} (h0 : P []) (h1 : ∀ xs x, P xs → P (xs ++ [x])) (xs : List Atr) : P xs := by
  have : ∀ n (xs : List Atr), xs.length = n → P xs := by
    intro n
    induction n with
    | zero => intro xs h; rw [List.eq_nil_of_length_eq_zero h]; exact h0
    | succ n ih =>
      intro xs h
      have hne : xs ≠ [] := by rintro rfl; simp at h
      rw [← List.dropLast_concat_getLast hne]
      exact h1 _ _ (ih _ (by simp; omega))
  exact this _ xs rfl
theorem once_any (xs : List Atr) (s : ByteArray) : (once xs).any (hs s) = xs.any (hs s) := by
  induction xs using snocRec with
  | h0 => rfl
  | h1 xs x ih =>
    rw [once_snoc]
    split
    · rename_i h
      rw [ih, List.any_append]
      cases hx : hs s x with
      | false => simp [hx]
      | true =>
        have : x.1 = s := hs_iff.1 hx
        rw [this, ih] at h
        simp [h]
    · rw [List.any_append, List.any_append, ih]
theorem once_find (xs : List Atr) (s : ByteArray) : (once xs).find? (hs s) = xs.find? (hs s) := by
  induction xs using snocRec with
  | h0 => rfl
  | h1 xs x ih =>
    rw [once_snoc]
    split
    · rename_i h
      rw [ih, List.find?_append]
      cases hx : hs s x with
      | false => simp [hx]
      | true =>
        have : x.1 = s := hs_iff.1 hx
        rw [this, once_any] at h
        cases hf : xs.find? (hs s) with
        | some y => rfl
        | none =>
          rw [List.find?_eq_none] at hf
          rw [List.any_eq_true] at h
          obtain ⟨y, hy, hy2⟩ := h
          exact absurd hy2 (hf y hy)
    · rw [List.find?_append, List.find?_append, ih]
/-- no name twice -/
def Sgl (xs : List Atr) : Prop := xs.Pairwise fun x y => x.1 ≠ y.1
theorem once_sgl (xs : List Atr) : Sgl (once xs) := by
  induction xs using snocRec with
  | h0 => exact List.Pairwise.nil
  | h1 xs x ih =>
    rw [once_snoc]
    split
    · exact ih
    · rename_i h
      unfold Sgl at ih ⊢
      rw [List.pairwise_append]
      refine ⟨ih, by simp, fun a ha b hb => ?_⟩
      simp at hb
      subst hb
      intro e
      exact h (List.any_eq_true.2 ⟨a, ha, hs_iff.2 e⟩)
theorem once_id {xs : List Atr} (h : Sgl xs) : once xs = xs := by
  induction xs using snocRec with
  | h0 => rfl
  | h1 xs x ih =>
    unfold Sgl at h ih
    rw [List.pairwise_append] at h
    rw [once_snoc, ih h.1, if_neg]
    intro ha
    rw [List.any_eq_true] at ha
    obtain ⟨y, hy, hy2⟩ := ha
    exact h.2.2 y hy x (by simp) (hs_iff.1 hy2)
theorem once_once (xs : List Atr) : once (once xs) = once xs := once_id (once_sgl xs)
theorem once_len (xs : List Atr) : (once xs).length ≤ xs.length := by
  induction xs using snocRec with
  | h0 => simp [once]
  | h1 xs x ih =>
    rw [once_snoc]
    split <;> simp <;> omega
theorem once_mem {xs : List Atr} {x : Atr} (h : x ∈ once xs) : x ∈ xs := by
  induction xs using snocRec with
  | h0 => exact h
  | h1 xs y ih =>
    rw [once_snoc] at h
    split at h
    · exact List.mem_append_left _ (ih h)
    · rcases List.mem_append.1 h with h | h
      · exact List.mem_append_left _ (ih h)
      · exact List.mem_append_right _ h
/-- a place is the first of its name just where none ahead has that name -/
theorem pl_self {xs : List Atr} {k : Nat} {x : Atr} (hk : xs[k]? = some x) : pl xs x.1 = k ↔ (xs.take k).any (hs x.1) = false := by
  have hx : hs x.1 x = true := hs_iff.2 rfl
  constructor
  · intro h
    rw [List.any_eq_false]
    intro y hy
    obtain ⟨j, hj, rfl⟩ := List.getElem_of_mem hy
    have hj2 : j < k := by simp at hj; omega
    have hj3 : j < xs.length := by simp at hj; omega
    have := pl_before (xs := xs) (s := x.1) (j := j) (y := xs[j]) (by omega) (List.getElem?_eq_getElem hj3)
    simpa using this
  · intro h
    rw [List.any_eq_false] at h
    refine pl_hit hk hx (fun j y hj hy => ?_)
    have : y ∈ xs.take k := List.mem_of_getElem? (i := j) (by rw [List.getElem?_take, if_pos hj]; exact hy)
    simpa using h y this
theorem pl_le_self {xs : List Atr} {k : Nat} {x : Atr} (hk : xs[k]? = some x) : pl xs x.1 ≤ k := by
  rcases Nat.lt_or_ge k (pl xs x.1) with h | h
  · have := pl_before h hk
    rw [hs_ne] at this
    exact absurd rfl this
  · exact h
theorem take_snoc {α : Type} {xs : List α} {k : Nat} {x : α} (hk : xs[k]? = some x) : xs.take (k + 1) = xs.take k ++ [x] := by
  rw [List.take_add_one, hk]
  rfl
theorem once_take {xs : List Atr} {k : Nat} {x : Atr} (hk : xs[k]? = some x) : once (xs.take (k + 1)) = if pl xs x.1 = k then once (xs.take k) ++ [x] else once (xs.take k) := by
  rw [take_snoc hk, once_snoc, once_any]
  by_cases h : pl xs x.1 = k
  · rw [if_pos h, (pl_self hk).1 h]
    simp
  · rw [if_neg h, if_pos]
    cases h2 : (xs.take k).any (hs x.1) with
    | true => rfl
    | false => exact absurd ((pl_self hk).2 h2) h

/-- x's value is what the second list has under its name -/
def alk (b : List Atr) (x : Atr) : Bool := match b.find? (hs x.1) with | some y => sm y.2 x.2 | none => false
def alike (a b : List Atr) : Bool := a.length == b.length && a.all (alk b)
theorem alk_self {b : List Atr} {x : Atr} (hb : ∀ y ∈ b, ∀ z ∈ b, y.1 = z.1 → y = z) (hx : x ∈ b) : alk b x = true := by
  unfold alk
  cases h : b.find? (hs x.1) with
  | none =>
    rw [List.find?_eq_none] at h
    exact absurd (hs_iff.2 rfl) (h x hx)
  | some y =>
    have hy := List.mem_of_find?_eq_some h
    have hn := hs_iff.1 (List.find?_some h)
    rw [hb y hy x hx hn]
    exact sm_self _
theorem sgl_inj {b : List Atr} (h : Sgl b) : ∀ y ∈ b, ∀ z ∈ b, y.1 = z.1 → y = z := by
  induction b with
  | nil => intro y hy; cases hy
  | cons x b ih =>
    unfold Sgl at h ih
    rw [List.pairwise_cons] at h
    intro y hy z hz e
    rcases List.mem_cons.1 hy with h1 | h1
    · rcases List.mem_cons.1 hz with h2 | h2
      · rw [h1, h2]
      · exact absurd e (by rw [h1]; exact h.1 z h2)
    · rcases List.mem_cons.1 hz with h2 | h2
      · exact absurd e.symm (by rw [h2]; exact h.1 y h1)
      · exact ih h.2 y h1 z h2 e
theorem alike_of {a b : List Atr} (hl : a.length = b.length) (ha : Sgl a) (hab : ∀ x, x ∈ b ↔ x ∈ a) : alike a b = true := by
  unfold alike
  rw [Bool.and_eq_true, beq_iff_eq, List.all_eq_true]
  refine ⟨hl, fun x hx => alk_self (fun y hy z hz e => sgl_inj ha y ((hab y).1 hy) z ((hab z).1 hz) e) ((hab x).2 hx)⟩
theorem alike_once (xs : List Atr) : alike (once xs) (once xs) = true := alike_of rfl (once_sgl xs) (fun _ => Iff.rfl)
/-- the list turned about -/
def rot (xs : List Atr) (t : Nat) : List Atr := (List.range xs.length).map fun i => xs[(i + t) % xs.length]!
theorem rot_len (xs : List Atr) (t : Nat) : (rot xs t).length = xs.length := by simp [rot]
theorem rot_mem (xs : List Atr) (t : Nat) (x : Atr) : x ∈ rot xs t ↔ x ∈ xs := by
  unfold rot
  rw [List.mem_map]
  constructor
  · rintro ⟨i, hi, rfl⟩
    rw [List.mem_range] at hi
    have hm : (i + t) % xs.length < xs.length := Nat.mod_lt _ (by omega)
    rw [List.getElem!_eq_getElem?_getD, List.getElem?_eq_getElem hm]
    exact List.getElem_mem hm
  · intro hx
    obtain ⟨j, hj, rfl⟩ := List.getElem_of_mem hx
    refine ⟨(j + xs.length * t - t) % xs.length, List.mem_range.2 (Nat.mod_lt _ (by omega)), ?_⟩
    have ht : t ≤ xs.length * t := Nat.le_mul_of_pos_left _ (by omega)
    have : ((j + xs.length * t - t) % xs.length + t) % xs.length = j := by
      rw [Nat.mod_add_mod, show j + xs.length * t - t + t = j + xs.length * t by omega, Nat.add_mul_mod_self_left, Nat.mod_eq_of_lt hj]
    rw [this, List.getElem!_eq_getElem?_getD, List.getElem?_eq_getElem hj]
    rfl
theorem alike_rot (xs : List Atr) (t : Nat) : alike (once xs) (rot (once xs) t) = true :=
  alike_of (rot_len _ _).symm (once_sgl xs) (fun x => rot_mem _ _ x)

end Go.Proofs.Ytodlcfhkiilpgaa
