/- The document's example, and what the laws of frames share. -/
import Derived.Test.YtanbbomdidefjaaFq
import Derived.Test.YtanbbomdidefjaaNf
import Derived.Deep.RegionHeld3
import Derived.Maps.AppendAt
namespace Go.Proofs.Ytanbbomdidefjaa
open Go.RowKit Go.Shelf

theorem conv5 {w : World} {A : Option Addr} {cap : Nat} {l : List Int} (h : Rd w .u8 A l) : (convert 24 9 (.slice A l.length cap)).run Try.prog w = .ok (.string (strOfNums l)) w :=
  conv_any Try.underlying24 Try.underlying5 Try.underlying9 h
/-- an append onto a row of its own, in a region that draws its order -/
theorem step_append_rd {w : World} {ops : Array Oper} {o : Oper} {a : Act} {K : Act → World → Prop} {Q : Exit → Act → World → Prop} {E : Prop} (hw : Region.wanted o (yielded ops a.tmps) = true) (s x : Operand) (ho : o.op = .call { callee := .builtin .append, args := #[s, x], argTypes := #[24, 24] })
    (base : Nat) (v : Value) (n : Nat) (xs : List Int) (hs : a.eval s = v) (hown : w.ownsRow base 5 1 v n (xs.map (Value.int .u8))) (A : Option Addr) (m c : Nat) (hx : a.eval x = .slice A m c) (news : List Int) (hm : news.length = m) (hrd : Rd w .u8 A news) (hnone : A = none → c = 0)
    (hn : n + m ≤ 100000000) (hbase : base ≤ w.heap.size)
    (h : ∀ v' w', w'.ownsRow base 5 1 v' (n + m) ((xs ++ news).map (Value.int .u8)) → w.grownBy w' v.ownBlock → K (a.put o.dst v') w') : if Region.wanted o (yielded ops a.tmps) = true then Oper.wp Try.prog o a w K Q else E := by
  obtain ⟨i0, hi, hz0, hz1, hz2⟩ := info_parts infoU8
  rw [if_pos hw]
  cases A with
  | none =>
    obtain rfl : news = [] := by
      rcases hrd with h | ⟨b, off, h, _⟩
      · exact h
      · cases h
    obtain rfl : m = 0 := by simpa using hm.symm
    obtain rfl : c = 0 := hnone rfl
    have hrun := run_append_owned_none (P := Try.prog) (w := w) base 24 o.type 5 i0 1 Try.underlying24 hi v n _ hown
    unfold Oper.wp execOp
    simp only [ho, resolve, invoke, builtin, Sem.run_bind, Sem.run_pure, Result.andThen_ok, List.map_toArray, List.map_cons, List.map_nil, hs, hx, hrun]
    exact h v w (by simpa using hown) ⟨rfl, rfl, rfl, Nat.le_refl _, fun _ _ _ => rfl⟩
  | some ad =>
    obtain ⟨v', w', hrun, h2, h3, _, _⟩ := run_append_own_at (P := Try.prog) w base 24 o.type 5 i0 _ 1 1 Try.underlying24 hi hz0 hz1 hz2 rfl (by decide) v n _ hown ad m c (news.map (Value.int .u8)) (by simp [hm]) hrd.add (ints_one news) (by unfold maxLen; omega) (by omega) hbase
    unfold Oper.wp execOp
    simp only [ho, resolve, invoke, builtin, Sem.run_bind, Sem.run_pure, Result.andThen_ok, List.map_toArray, List.map_cons, List.map_nil, hs, hx, hrun]
    exact h v' w' (by rw [List.map_append]; exact h2) h3
theorem frame_len (l : List Int) (h : l.length ≤ 1000000) : (Fx.frame l).length ≤ l.length + 14 := by
  have := Nx.put_len l.length (by omega)
  unfold Fx.frame
  simp [Fx.four]
  omega
theorem frame_nil : strOfNums (Fx.frame []) = ⟨#[0, 197, 157, 28, 129]⟩ := by
  have : Fx.frame [] = [0, 197, 157, 28, 129] := by
    unfold Fx.frame Fx.sum Fx.sumFrom
    rw [List.length_nil, Nx.put_lo (by decide)]
    rfl
  rw [this]
  rfl

set_option maxHeartbeats 400000 in
theorem head5_any (w : World) : Calls Try.prog 5 #[] w fun e w' => e = .returned (.bool true) ∧ Below w.heap.size w w' := by
  go_enter Try.func5, Try.ntmps5
  go_wp2_with fail
  refine (Frame_any [] [] none none 0 0 w (.inl rfl) (.inl rfl) (fun _ => rfl) (fun _ => rfl) (fun c h => by cases h) (by simp) (by simp)).mono ?_
  rintro e w1 ⟨v, rfl, hown, hb⟩
  simp only [List.nil_append] at hown
  obtain ⟨A, c, rfl, _, _, _, hrd⟩ := Rd.own hown
  have hv := conv5 (cap := c) hrd
  rw [frame_nil] at hv
  clear hown
  go_wp2
  go_ret
  exact ⟨rfl, hb⟩

end Go.Proofs.Ytanbbomdidefjaa
