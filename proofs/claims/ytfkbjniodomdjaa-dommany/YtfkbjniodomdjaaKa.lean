/- Rows of attributes in memory; first, place, Get, Clone, same. -/
import Derived.Test.YtfkbjniodomdjaaKx
import Derived.Test.YtfkbjniodomdjaaGm
import Derived.Test.YtfkbjniodomdjaaKShelf
import Derived.Laws.StructEq
import Derived.Deep.QuietTactic
import Derived.BigQuiet
namespace Go.Proofs.Ytfkbjniodomdjaa
open Go.RowKit Go.Lib

theorem infoAt : (Try.prog.info? 57).map (fun i => (i.zero, i.size, i.bytes)) = some (some (.agg #[.string ⟨#[]⟩, .string ⟨#[]⟩]), 2, 32) := by kernel_rfl
def encA (x : Atr) : List Value := [.string x.1, .string x.2]
def cellsA (xs : List Atr) : List Value := xs.flatMap encA
theorem cellsA_len (xs : List Atr) : (cellsA xs).length = xs.length * 2 := by
  unfold cellsA
  induction xs with
  | nil => rfl
  | cons x xs ih => rw [List.flatMap_cons, List.length_append, ih]; simp [encA]; omega
theorem cellsA_snoc (xs ys : List Atr) : cellsA (xs ++ ys) = cellsA xs ++ cellsA ys := by simp [cellsA]
theorem cellsA_one (xs : List Atr) : ∀ u ∈ cellsA xs, u.oneCell' = true := by
  intro u hu
  simp only [cellsA, List.mem_flatMap, encA] at hu
  obtain ⟨x, _, hx⟩ := hu
  simp at hx
  rcases hx with rfl | rfl <;> rfl
theorem cellsA_get (xs : List Atr) : ∀ (i : Nat) (x : Atr), xs[i]? = some x → (cellsA xs)[i * 2]? = some (.string x.1) ∧ (cellsA xs)[i * 2 + 1]? = some (.string x.2) := by
  induction xs with
  | nil => intro i x h; simp at h
  | cons y xs ih =>
    intro i x h
    have hc : cellsA (y :: xs) = .string y.1 :: .string y.2 :: cellsA xs := rfl
    rw [hc]
    cases i with
    | zero => simp at h; subst h; exact ⟨rfl, rfl⟩
    | succ i =>
      have := ih i x (by simpa using h)
      rw [show (i + 1) * 2 = i * 2 + 1 + 1 by omega]
      simpa using this
theorem cellsA_inv (xs : List Atr) (j : Nat) (u : Value) (h : (cellsA xs)[j]? = some u) : ∃ i x, xs[i]? = some x ∧ (j = i * 2 ∧ u = .string x.1 ∨ j = i * 2 + 1 ∧ u = .string x.2) := by
  have hl := (List.getElem?_eq_some_iff.1 h).1
  rw [cellsA_len] at hl
  have hi : j / 2 < xs.length := by omega
  refine ⟨j / 2, xs[j / 2], List.getElem?_eq_getElem hi, ?_⟩
  have hg := cellsA_get xs (j / 2) _ (List.getElem?_eq_getElem hi)
  rcases Nat.mod_two_eq_zero_or_one j with e | e
  · left
    have : j / 2 * 2 = j := by omega
    rw [this, h] at hg
    exact ⟨this.symm, Option.some.inj hg.1⟩
  · right
    have : j / 2 * 2 + 1 = j := by omega
    rw [this, h] at hg
    exact ⟨this.symm, Option.some.inj hg.2⟩

/-- the slice at A holds xs -/
def RdA (w : World) (A : Option Addr) (xs : List Atr) : Prop :=
  xs = [] ∨ ∃ b off, A = some ⟨b, off, none⟩ ∧ b < w.heap.size ∧ ∀ (i : Nat) (x : Atr), xs[i]? = some x → w.cell? ⟨b, off + i * 2, none⟩ = some (.string x.1) ∧ w.cell? ⟨b, off + i * 2 + 1, none⟩ = some (.string x.2)
theorem RdA.keep {w w' : World} {A : Option Addr} {xs : List Atr} (h : RdA w A xs) (hs : w.heap.size ≤ w'.heap.size) (hc : ∀ p : Addr, p.block < w.heap.size → w'.cell? p = w.cell? p) : RdA w' A xs := by
  rcases h with h | ⟨b, off, rfl, hb, h⟩
  · exact .inl h
  · exact .inr ⟨b, off, rfl, by omega, fun i x hi => ⟨(hc _ hb).trans (h i x hi).1, (hc _ hb).trans (h i x hi).2⟩⟩
theorem RdA.below {w w' : World} {A : Option Addr} {xs : List Atr} (h : RdA w A xs) (hb : Below w.heap.size w w') : RdA w' A xs :=
  h.keep hb.size fun _ hp => hb.cell hp
theorem RdA.at_ {w : World} {A : Option Addr} {xs : List Atr} {i : Nat} {x : Atr} (h : RdA w A xs) (hx : xs[i]? = some x) : ∃ b off, A = some ⟨b, off, none⟩ ∧ b < w.heap.size ∧ w.cell? ⟨b, off + i * 2, none⟩ = some (.string x.1) ∧ w.cell? ⟨b, off + i * 2 + 1, none⟩ = some (.string x.2) := by
  rcases h with rfl | ⟨b, off, hA, hb, h⟩
  · simp at hx
  · exact ⟨b, off, hA, hb, h i x hx⟩
theorem RdA.cells {w : World} {ad : Addr} {xs : List Atr} (h : RdA w (some ad) xs) : ∀ (j : Nat) (u : Value), (cellsA xs)[j]? = some u → w.cell? (ad.add j) = some u := by
  intro j u hu
  obtain ⟨i, x, hx, hj⟩ := cellsA_inv xs j u hu
  obtain ⟨b, off, hA, _, h1, h2⟩ := h.at_ hx
  obtain rfl : ad = ⟨b, off, none⟩ := by injection hA
  rw [Addr.add_lit]
  rcases hj with ⟨rfl, rfl⟩ | ⟨rfl, rfl⟩
  · exact h1
  · exact h2
theorem RdA.own {w : World} {base : Nat} {e : TypeId} {v : Value} {n : Nat} {xs : List Atr} (h : w.ownsRow base e 2 v n (cellsA xs)) : ∃ A cap, v = .slice A n cap ∧ xs.length = n ∧ n ≤ cap ∧ (A = none → cap = 0) ∧ RdA w A xs := by
  have hl : xs.length = n := by have := h.1; rw [cellsA_len] at this; omega
  subst hl
  have hh := h
  rcases h.2 with ⟨rfl, hn⟩ | ⟨g, cap, cur, rfl, _, hg, hnc, _⟩
  · have hx : xs = [] := List.eq_nil_of_length_eq_zero hn
    subst hx
    exact ⟨none, 0, rfl, rfl, by simp, fun _ => rfl, .inl rfl⟩
  · refine ⟨some ⟨g, 0, none⟩, cap, rfl, rfl, hnc, (fun h => by cases h), .inr ⟨g, 0, rfl, (Array.getElem?_eq_some_iff.1 hg).1, fun i x hi => ?_⟩⟩
    have hc := cellsA_get xs i x hi
    have e1 := hh.cells (g := g) rfl _ _ hc.1
    have e2 := hh.cells (g := g) rfl _ _ hc.2
    rw [Addr.add_lit] at e1 e2
    rw [Nat.zero_add] at *
    exact ⟨e1, by simpa using e2⟩

/-- where each stands in memory: for the walk's rounds -/
theorem get_lt {xs : List Atr} {k : Nat} (h : k < xs.length) : ∃ x, xs[k]? = some x := ⟨_, List.getElem?_eq_getElem h⟩

instance : Inhabited Atr := ⟨(⟨#[]⟩, ⟨#[]⟩)⟩
theorem idxBy_fst (xs : List Atr) (s : ByteArray) : Lib.idxBy (fun _ y => hs s y) (xs.take xs.length) default = fst xs s := by
  by_cases h : pl xs s < xs.length
  · obtain ⟨x, hx, hn⟩ := pl_at h
    rw [fst_hit h, Lib.idxBy_hit (fun _ y => hs s y) xs xs.length (pl xs s) default h (Nat.le_refl _)]
    · rw [List.getElem!_eq_getElem?_getD, hx]; exact hs_iff.2 hn
    · intro j hj
      rw [List.getElem!_eq_getElem?_getD, List.getElem?_eq_getElem (by omega)]
      exact pl_before hj (List.getElem?_eq_getElem (by omega))
  · rw [fst_miss h, Lib.idxBy_miss]
    intro j hj
    have hp := pl_le xs s
    rw [List.getElem!_eq_getElem?_getD, List.getElem?_eq_getElem hj]
    exact pl_before (xs := xs) (s := s) (j := j) (by omega) (List.getElem?_eq_getElem hj)
/-- what Get answers -/
def gotV (o : Option Atr) : Ending := .returned (.tuple #[.string (match o with | some x => x.2 | none => ⟨#[]⟩), .bool o.isSome])
set_option maxHeartbeats 1000000 in
theorem clone_any (xs : List Atr) (A : Option Addr) (cap : Nat) (w : World) (h : RdA w A xs) (hl : xs.length ≤ 1000000) (hA : A = none → xs = []) :
    Calls Try.prog 80 #[.slice A xs.length cap] w fun e w' => ∃ v, e = .returned v ∧ w'.ownsRow w.heap.size 57 2 v xs.length (cellsA xs) ∧ Below w.heap.size w w' := by
  obtain ⟨i0, hi, hz0, hz1, hz2⟩ := info_parts infoAt
  have q : ∀ (w : World) (a : Option Addr) (n c n' c' : Nat), (binOp .eql 51 (.slice a n c) (.slice none n' c')).run Try.prog w = .ok (.bool a.isNone) w := fun w a n c n' c' => Lib.run_eql_slice_nil w _ _ a n c n' c' Try.underlying51
  cases A with
  | none =>
    obtain rfl := hA rfl
    go_enter Try.func80, Try.ntmps80
    go_wp2
    go_ret
    exact ⟨_, rfl, ⟨by simp [cellsA], .inl ⟨rfl, rfl⟩⟩, Below.refl _ _⟩
  | some ad =>
    have H := Lib.hid (show ∀ (j : Nat) (u : Value), (cellsA xs)[j]? = some u → (w.alloc (.cells #[] 57)).cell? (ad.add j) = some u from fun j u hj => Lib.cell?_alloc_some _ (h.cells j u hj))
    clear h hA
    go_enter Try.func80, Try.ntmps80
    go_wp2_with (at_builtin; refine wpList_append_own _ rfl _ _ 51 rfl w.heap.size 57 i0 _ 2 32 Try.underlying51 hi hz0 hz1 hz2 rfl (by decide) _ _ _ rfl (World.ownsRow_made w #[] 0 (Nat.le_refl _) (Nat.zero_le _) (by simp)) ad xs.length cap (cellsA xs) rfl (cellsA_len _) H.out (cellsA_one _) ?qc4 ?qc5 ?qc6 ?_)
    case qc4 => unfold maxLen; omega
    case qc5 => omega
    case qc6 => simp
    intro v' w1 hown hgrow hnil
    go_wp2
    go_ret
    refine ⟨v', rfl, by simpa using hown, ?_⟩
    exact ((Below.refl _ w).alloc (Nat.le_refl _) _).grown hgrow (by simp) (by intro k hk; simp [Value.ownBlock] at hk; omega)

theorem neqA : NeqAt Try.prog 57 (fun x => .agg (encA x).toArray) (fun x y => sm x.1 y.1 && sm x.2 y.2) := by
  refine ⟨fun x y w => ?_, GuardAt.agg _ (by kernel_rfl)⟩
  have u3 := Try.underlying9
  have a3 := Try.isAgg9
  have z3 := Try.sizeOf9
  have hS : Try.prog.underlying 57 = some (.struct (Try.prog.fieldsOf 57)) := by kernel_rfl
  have hp : Try.prog.stoodInHeld 57 = false := by kernel_rfl
  simp only [encA]
  rw [run_neq_struct, show (10000 : Nat) = 9999 + 1 from rfl, run_equalIn_agg w 9999 57 _ _ hS hp]
  simp only [Program.fieldsOf, Try.underlying57]
  go_simp
  cases h1 : sm x.1 y.1 <;> cases h2 : sm x.2 y.2 <;> unfold sm at h1 h2 <;> simp_all

end Go.Proofs.Ytfkbjniodomdjaa
