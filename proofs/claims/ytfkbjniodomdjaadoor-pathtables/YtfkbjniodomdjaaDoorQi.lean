/- The region of the law PathTables that puts a name into the law's own list. -/
import Derived.Test.YtfkbjniodomdjaaDoorQh
import Derived.Maps.AppendAt
import Derived.Laws.Append
import Derived.Deep.RegionLaw
import Derived.BigRegion
namespace Go.Proofs.YtfkbjniodomdjaaDoor
open Go.RowKit Go.Shelf Go.Lib

/-- the slice at A holds the texts zs -/
def RdX (w : World) (A : Option Addr) (zs : List ByteArray) : Prop :=
  zs = [] ∨ ∃ b off, A = some ⟨b, off, none⟩ ∧ b < w.heap.size ∧ ∀ (i : Nat) (x : ByteArray), zs[i]? = some x → w.cell? ⟨b, off + i, none⟩ = some (.string x)
theorem RdX.below {w w' : World} {A : Option Addr} {zs : List ByteArray} (h : RdX w A zs) (hb : Below w.heap.size w w') : RdX w' A zs := by
  rcases h with h | ⟨b, off, rfl, hl, h⟩
  · exact .inl h
  · exact .inr ⟨b, off, rfl, Nat.lt_of_lt_of_le hl hb.size, fun i x hi => (hb.cell (p := ⟨b, off + i, none⟩) hl).trans (h i x hi)⟩
theorem RdX.add {w : World} {ad : Addr} {xs : List ByteArray} (h : RdX w (some ad) xs) : ∀ j u, (xs.map Value.string)[j]? = some u → w.cell? (ad.add j) = some u := by
  intro j u hu
  rcases h with rfl | ⟨b, off, hA, hb, hc⟩
  · simp at hu
  · obtain rfl : ad = ⟨b, off, none⟩ := by injection hA
    rw [List.getElem?_map] at hu
    cases hx : xs[j]? with
    | none => rw [hx] at hu; simp at hu
    | some x =>
      rw [hx] at hu
      simp at hu
      subst hu
      rw [Addr.add_lit]
      exact hc j x hx
theorem strs_one (l : List ByteArray) : ∀ u ∈ l.map Value.string, u.oneCell' = true := by
  intro u hu
  simp at hu
  obtain ⟨z, _, rfl⟩ := hu
  rfl
theorem rdx_take {w : World} {b o k : Nat} {xs : List ByteArray} (h : RdX w (some ⟨b, o, none⟩) xs) : RdX w (some ⟨b, o, none⟩) (xs.take k) := by
  rcases h with rfl | ⟨b', o', hA, hb, hc⟩
  · exact .inl (by simp)
  · refine .inr ⟨b', o', hA, hb, fun i x hi => ?_⟩
    rw [List.getElem?_take] at hi
    split at hi
    · exact hc i x hi
    · cases hi
theorem rdx_drop {w : World} {b o k : Nat} {xs : List ByteArray} (h : RdX w (some ⟨b, o, none⟩) xs) : RdX w (some ⟨b, o + k, none⟩) (xs.drop k) := by
  rcases h with rfl | ⟨b', o', hA, hb, hc⟩
  · exact .inl (by simp)
  · injection hA with hA
    injection hA with h1 h2
    subst h1 h2
    refine .inr ⟨b, o + k, rfl, hb, fun i x hi => ?_⟩
    rw [List.getElem?_drop] at hi
    rw [Nat.add_assoc]
    exact hc (k + i) x hi
theorem rdx_one (w : World) (n : ByteArray) : RdX (w.alloc (.cells #[.string n] 9)) (some ⟨w.heap.size, 0, none⟩) [n] := by
  refine .inr ⟨w.heap.size, 0, rfl, by rw [World.size_alloc]; omega, fun j x hj => ?_⟩
  match j, hj with
  | 0, hj => simp at hj; subst hj; rw [cell_of_row _ _ _ _ _ _ (heap_alloc_new w _)]; rfl
  | j + 1, hj => simp at hj
theorem rdx_grown {W W' : World} {A : Option Addr} {xs : List ByteArray} {row : Option Nat} (h : RdX W A xs) (hg : W.grownBy W' row) (hne : ∀ ad, A = some ad → row ≠ some ad.block) : RdX W' A xs := by
  rcases h with h | ⟨b, off, rfl, hb, hc⟩
  · exact .inl h
  · exact .inr ⟨b, off, rfl, Nat.lt_of_lt_of_le hb hg.size, fun i x hi => (World.cell?_of_block (a := ⟨b, off + i, none⟩) (hg.block b hb (fun e => hne _ rfl e.symm))).trans (hc i x hi)⟩
theorem rdx_own {w : World} {base n : Nat} {A : Option Addr} {c : Nat} {xs : List ByteArray} (h : w.ownsRow base 9 1 (.slice A n c) n (xs.map Value.string)) : RdX w A xs := by
  rcases h.2 with ⟨h1, h0⟩ | ⟨g, cap, cur, h1, hb, hg, hn, hm, _⟩
  · exact .inl (List.eq_nil_of_length_eq_zero (by have := h.1; simp at this; omega))
  · injection h1 with h1 h2 h3
    subst h1
    refine .inr ⟨g, 0, rfl, (Array.getElem?_eq_some_iff.1 hg).1, fun i x hi => ?_⟩
    have := h.cells (g := g) rfl i (.string x) (by rw [List.getElem?_map, hi]; rfl)
    rwa [Addr.add_lit] at this
theorem infoStr : (Tryd.prog.info? 9).map (fun i => (i.zero, i.size, i.bytes)) = some (some (.string ⟨#[]⟩), 1, 16) := by kernel_rfl
/-- an append onto a row of texts of its own, in a region that draws its order -/
theorem step_append_rdS {w : World} {ops : Array Oper} {o : Oper} {a : Act} {K : Act → World → Prop} {Q : Exit → Act → World → Prop} {E : Prop} (hw : Region.wanted o (yielded ops a.tmps) = true) (s x : Operand) (ho : o.op = .call { callee := .builtin .append, args := #[s, x], argTypes := #[25, 25] })
    (base : Nat) (v : Value) (n : Nat) (xs : List ByteArray) (hs : a.eval s = v) (hown : w.ownsRow base 9 1 v n (xs.map Value.string)) (A : Option Addr) (m c : Nat) (hx : a.eval x = .slice A m c) (news : List ByteArray) (hm : news.length = m) (hrd : RdX w A news) (hnone : A = none → c = 0)
    (hn : n + m ≤ 100000000) (hbase : base ≤ w.heap.size)
    (h : ∀ v' w', w'.ownsRow base 9 1 v' (n + m) ((xs ++ news).map Value.string) → w.grownBy w' v.ownBlock → K (a.put o.dst v') w') : if Region.wanted o (yielded ops a.tmps) = true then Oper.wp Tryd.prog o a w K Q else E := by
  obtain ⟨i0, hi, hz0, hz1, hz2⟩ := info_parts infoStr
  rw [if_pos hw]
  cases A with
  | none =>
    obtain rfl : news = [] := by
      rcases hrd with h | ⟨b, off, h, _⟩
      · exact h
      · cases h
    obtain rfl : m = 0 := by simpa using hm.symm
    obtain rfl : c = 0 := hnone rfl
    have hrun := run_append_owned_none (P := Tryd.prog) (w := w) base 25 o.type 9 i0 1 Tryd.underlying25 hi v n _ hown
    unfold Oper.wp execOp
    simp only [ho, resolve, invoke, builtin, Sem.run_bind, Sem.run_pure, Result.andThen_ok, List.map_toArray, List.map_cons, List.map_nil, hs, hx, hrun]
    exact h v w (by simpa using hown) ⟨rfl, rfl, rfl, Nat.le_refl _, fun _ _ _ => rfl⟩
  | some ad =>
    obtain ⟨v', w', hrun, h2, h3, _, _⟩ := run_append_own_at (P := Tryd.prog) w base 25 o.type 9 i0 _ 1 16 Tryd.underlying25 hi hz0 hz1 hz2 rfl (by decide) v n _ hown ad m c (news.map Value.string) (by simp [hm]) hrd.add (strs_one news) (by unfold maxLen; omega) (by omega) hbase
    unfold Oper.wp execOp
    simp only [ho, resolve, invoke, builtin, Sem.run_bind, Sem.run_pure, Result.andThen_ok, List.map_toArray, List.map_cons, List.map_nil, hs, hx, hrun]
    exact h v' w' (by rw [List.map_append]; exact h2) h3
theorem own_slX {W : World} {b t m k : Nat} {v : Value} {vs : List Value} (h : W.ownsRow b t m v k vs) : ∃ A c, v = .slice A k c := by
  rcases h.2 with ⟨h1, h0⟩ | ⟨g, cap, cur, h1, _⟩
  · exact ⟨none, 0, by rw [h1, h0]⟩
  · exact ⟨_, _, h1⟩
theorem own_keepS {w w' : World} {base n : Nat} {v : Value} {xs : List ByteArray} (h : w.ownsRow base 9 1 v n (xs.map Value.string)) (hb : Below w.heap.size w w') : w'.ownsRow base 9 1 v n (xs.map Value.string) := own_keepT h hb

def sub : List Nat → Code → Code
  | [], c => c
  | 0 :: l, .seq a _ => sub l a
  | 1 :: l, .seq _ b => sub l b
  | 2 :: l, .block _ b => sub l b
  | 2 :: l, .loop b => sub l b
  | 3 :: l, .cond _ a _ => sub l a
  | 4 :: l, .cond _ _ b => sub l b
  | _, c => c
/-- a piece of code comes to its end, and there N holds -/
def PNm (N : Act → World → Prop) (e : Exit) (a : Act) (w : World) : Prop := match e with
  | .normal => N a w
  | _ => False
noncomputable def r21 : Code := sub [1, 1, 1, 1, 1, 0, 1, 2, 2, 1, 0, 2, 1, 1, 1, 0, 1, 2, 1, 3, 1, 1, 1, 3, 1, 1] (Tryd.f3.body.getD .skip)
end Go.Proofs.YtfkbjniodomdjaaDoor
