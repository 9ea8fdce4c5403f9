/- An append of numbers onto a row of its own, in a region that draws its order; bits. -/
import Derived.Test.YtgfjilokpmafpabSd
import Derived.Test.YtgfjilokpmafpabSe
import Derived.Laws.BitsLemmas
namespace Go.Proofs.Ytgfjilokpmafpab
open Go.RowKit Go.Shelf

theorem i64_and_pow (m : Nat) (n : Int) (p : Int) (hm : m ≤ 62) (h : (BitVec.ofInt 64 p).toNat = 2 ^ m - 1) : bits .and .i64 n p = n % (2 ^ m : Nat) := by
  have key : (BitVec.ofInt 64 n &&& BitVec.ofInt 64 p).toNat = (n % ((2 ^ 64 : Nat) : Int)).toNat % 2 ^ m := by
    rw [BitVec.toNat_and, BitVec.toNat_ofInt, h, Nat.and_two_pow_sub_one_eq_mod]
  show IntKind.i64.wrap ((BitVec.ofInt 64 n &&& BitVec.ofInt 64 p).toNat : Nat) = n % (2 ^ m : Nat)
  rw [key, IntKind.wrap_i64]
  have h2 : 2 ^ m ≤ 2 ^ 62 := Nat.pow_le_pow_right (by omega) hm
  have h3 : (2 ^ 64 : Nat) = 2 ^ m * 2 ^ (64 - m) := by rw [← Nat.pow_add]; congr 1; omega
  have h4 : ((n % ((2 ^ 64 : Nat) : Int)).toNat % 2 ^ m : Nat) = n % ((2 ^ m : Nat) : Int) := by
    rw [Int.natCast_emod, Int.toNat_of_nonneg (Int.emod_nonneg _ (by decide)), h3, Int.natCast_mul, Int.emod_emod_of_dvd _ (Int.dvd_mul_right _ _)]
  have h5 : (0 : Int) ≤ n % ((2 ^ m : Nat) : Int) := Int.emod_nonneg _ (by have := Nat.two_pow_pos m; omega)
  have h6 : n % ((2 ^ m : Nat) : Int) < ((2 ^ m : Nat) : Int) := Int.emod_lt_of_pos _ (by have := Nat.two_pow_pos m; omega)
  omega
theorem i64_and15 (n : Int) : bits .and .i64 n 15 = n % 16 := i64_and_pow 4 n 15 (by decide) (by decide)
theorem i64_and7 (n : Int) : bits .and .i64 n 7 = n % 8 := i64_and_pow 3 n 7 (by decide) (by decide)
theorem i64_and3 (n : Int) : bits .and .i64 n 3 = n % 4 := i64_and_pow 2 n 3 (by decide) (by decide)
/-- an append onto a row of its own, in a region that draws its order -/
theorem step_append_rdI {w : World} {ops : Array Oper} {o : Oper} {a : Act} {K : Act → World → Prop} {Q : Exit → Act → World → Prop} {E : Prop} (hw : Region.wanted o (yielded ops a.tmps) = true) (s x : Operand) (ho : o.op = .call { callee := .builtin .append, args := #[s, x], argTypes := #[22, 22] })
    (base : Nat) (v : Value) (n : Nat) (xs : List Int) (hs : a.eval s = v) (hown : w.ownsRow base 3 1 v n (xs.map (Value.int .i64))) (A : Option Addr) (m c : Nat) (hx : a.eval x = .slice A m c) (news : List Int) (hm : news.length = m) (hrd : Rd w .i64 A news) (hnone : A = none → c = 0)
    (hn : n + m ≤ 100000000) (hbase : base ≤ w.heap.size)
    (h : ∀ v' w', w'.ownsRow base 3 1 v' (n + m) ((xs ++ news).map (Value.int .i64)) → w.grownBy w' v.ownBlock → K (a.put o.dst v') w') : if Region.wanted o (yielded ops a.tmps) = true then Oper.wp Try.prog o a w K Q else E := by
  obtain ⟨i0, hi, hz0, hz1, hz2⟩ := info_parts infoInt
  rw [if_pos hw]
  cases A with
  | none =>
    obtain rfl : news = [] := by
      rcases hrd with h | ⟨b, off, h, _⟩
      · exact h
      · cases h
    obtain rfl : m = 0 := by simpa using hm.symm
    obtain rfl : c = 0 := hnone rfl
    have hrun := run_append_owned_none (P := Try.prog) (w := w) base 22 o.type 3 i0 1 Try.underlying22 hi v n _ hown
    unfold Oper.wp execOp
    simp only [ho, resolve, invoke, builtin, Sem.run_bind, Sem.run_pure, Result.andThen_ok, List.map_toArray, List.map_cons, List.map_nil, hs, hx, hrun]
    exact h v w (by simpa using hown) ⟨rfl, rfl, rfl, Nat.le_refl _, fun _ _ _ => rfl⟩
  | some ad =>
    obtain ⟨v', w', hrun, h2, h3, _, _⟩ := run_append_own_at (P := Try.prog) w base 22 o.type 3 i0 _ 1 8 Try.underlying22 hi hz0 hz1 hz2 rfl (by decide) v n _ hown ad m c (news.map (Value.int .i64)) (by simp [hm]) hrd.add (ints_one news) (by unfold maxLen; omega) (by omega) hbase
    unfold Oper.wp execOp
    simp only [ho, resolve, invoke, builtin, Sem.run_bind, Sem.run_pure, Result.andThen_ok, List.map_toArray, List.map_cons, List.map_nil, hs, hx, hrun]
    exact h v' w' (by rw [List.map_append]; exact h2) h3
theorem rd_takeO {w : World} {b o k : Nat} {xs : List Int} (h : Rd w .i64 (some ⟨b, o, none⟩) xs) : Rd w .i64 (some ⟨b, o, none⟩) (xs.take k) := by
  rcases h with rfl | ⟨b', o', hA, hb, hc⟩
  · exact .inl (by simp)
  · refine .inr ⟨b', o', hA, hb, fun i hi => ?_⟩
    rw [List.length_take] at hi
    rw [hc i (by omega), List.getElem?_take, if_pos (by omega)]
theorem rd_dropO {w : World} {b o k : Nat} {xs : List Int} (h : Rd w .i64 (some ⟨b, o, none⟩) xs) : Rd w .i64 (some ⟨b, o + k, none⟩) (xs.drop k) := by
  rcases h with rfl | ⟨b', o', hA, hb, hc⟩
  · exact .inl (by simp)
  · injection hA with hA
    injection hA with h1 h2
    subst h1 h2
    by_cases hk : xs.length ≤ k
    · exact .inl (List.drop_eq_nil_of_le hk)
    · refine .inr ⟨b, o + k, rfl, hb, fun i hi => ?_⟩
      rw [List.length_drop] at hi
      rw [Nat.add_assoc, hc (k + i) (by omega), List.getElem?_drop]
theorem rd_one (w : World) (n : Int) : Rd (w.alloc (.cells #[.int .i64 n] 3)) .i64 (some ⟨w.heap.size, 0, none⟩) [n] := by
  refine .inr ⟨w.heap.size, 0, rfl, by rw [World.size_alloc]; omega, fun j hj => ?_⟩
  match j, hj with
  | 0, _ => rw [cell_of_row _ _ _ _ _ _ (heap_alloc_new w _)]; rfl
theorem rd_grown {W W' : World} {A : Option Addr} {xs : List Int} {row : Option Nat} (h : Rd W .i64 A xs) (hg : W.grownBy W' row) (hne : ∀ ad, A = some ad → row ≠ some ad.block) : Rd W' .i64 A xs := by
  rcases h with h | ⟨b, off, rfl, hb, hc⟩
  · exact .inl h
  · exact .inr ⟨b, off, rfl, Nat.lt_of_lt_of_le hb hg.size, fun i hi => (World.cell?_of_block (a := ⟨b, off + i, none⟩) (hg.block b hb (fun e => hne _ rfl e.symm))).trans (hc i hi)⟩
/-- a row of one's own, cut short -/
theorem own_cut {w : World} {base n m c : Nat} {A : Option Addr} {xs : List Int} (h : w.ownsRow base 3 1 (.slice A n c) n (xs.map (Value.int .i64))) (hm : m ≤ n) (hA : A ≠ none) : w.ownsRow base 3 1 (.slice A m c) m ((xs.take m).map (Value.int .i64)) := by
  have hl : xs.length = n := by have := h.1; simpa using this
  refine ⟨by simp; omega, ?_⟩
  rcases h.2 with ⟨h1, _⟩ | ⟨g, cap, cur, h1, hb, hg, hn, hmx, hcs, htk⟩
  · injection h1 with h1
    exact absurd h1 hA
  · injection h1 with h1 h2 h3
    subst h1 h3
    refine .inr ⟨g, c, cur, rfl, hb, hg, by omega, hmx, hcs, ?_⟩
    have := congrArg (List.take (m * 1)) htk
    rw [List.take_take, Nat.min_eq_left (by omega)] at this
    rw [this, List.map_take, Nat.mul_one]
end Go.Proofs.Ytgfjilokpmafpab
