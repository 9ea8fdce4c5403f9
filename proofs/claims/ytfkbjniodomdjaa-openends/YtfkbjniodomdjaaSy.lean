/- What the law OpenEnds itself calls: whether a name is among some; whether an element is one of two. -/
import Derived.Test.YtfkbjniodomdjaaSx
import Derived.Test.YtfkbjniodomdjaaSm
namespace Go.Proofs.Ytfkbjniodomdjaa
open Go.RowKit Go.Lib

theorem list_any (zs : List ByteArray) (n : ByteArray) (A : Option Addr) (cap : Nat) (W : World) (h : RdT W A zs) (hl : zs.length ≤ 1000000) :
    Calls Try.prog 34 #[.string n, .slice A zs.length cap] W fun e W' => e = .returned (.bool (amg zs n)) ∧ W' = W := by
  have H := Lib.hid h
  clear h
  go_enter Try.func34, Try.ntmps34
  go_wp2
  go_loop [9] (fun kv => ∃ k : Nat, k ≤ zs.length ∧ kv = .int .i64 k ∧ Hid (∀ (j : Nat) (z : ByteArray), j < k → zs[j]? = some z → sm z n = false)) (fun kv => zs.length - (intOf kv).toNat)
  case atStart => exact ⟨0, Nat.zero_le _, rfl, Lib.hid (fun j z hj => absurd hj (Nat.not_lt_zero _))⟩
  case round =>
    obtain ⟨k, hk, rfl, HN⟩ := hrel
    by_cases hlt : k < zs.length
    · obtain ⟨z, hz⟩ : ∃ z, zs[k]? = some z := ⟨_, List.getElem?_eq_getElem hlt⟩
      obtain ⟨b, off, rfl, hb, c0⟩ := H.out.at_ hz
      have HZ := Lib.hid hz
      clear hz
      cases hq : (z.toList == n.toList) with
      | true =>
        have hval : amg zs n = true := by
          unfold amg
          rw [List.any_eq_true]
          exact ⟨z, List.mem_of_getElem? HZ.out, hq⟩
        have HV := Lib.hid hval
        clear hval
        go_wp2
        go_ret
        exact ⟨by rw [HV.out]; rfl, rfl⟩
      | false =>
        have HN2 : Hid (∀ (j : Nat) (y : ByteArray), j < k + 1 → zs[j]? = some y → sm y n = false) := Lib.hid (fun j y hj hy => by
          by_cases e : j = k
          · subst e
            rw [HZ.out] at hy
            cases hy
            exact hq
          · exact HN.out j y (by omega) hy)
        go_wp2
        go_round
        case rel => exact ⟨k + 1, by omega, by go_num, HN2⟩
        case measure => simp [intOf]; omega
    · have hval : amg zs n = false := by
        unfold amg
        rw [List.any_eq_false]
        intro z hz
        obtain ⟨j, hj⟩ := List.mem_iff_getElem?.1 hz
        rw [HN.out j z (by have := (List.getElem?_eq_some_iff.1 hj).1; omega) hj]
        decide
      have HV := Lib.hid hval
      clear hval
      go_wp2
      go_ret
      exact ⟨by rw [HV.out]; rfl, rfl⟩
/-- whether an element is one of two -/
def isO (a b : ByteArray) (x : Nam) : Bool := spc x.2 == 0 && (sm x.1 a || sm x.1 b)
theorem isO_any (a b : ByteArray) (x : Nam) (B1 B2 : Nat) (W : World) (h1 : W.heap[B1]? = some (.cells #[.string a] 9 (0, 0))) (h2 : W.heap[B2]? = some (.cells #[.string b] 9 (0, 0))) :
    Calls Try.prog 30 #[.agg #[.string x.1, .int .i64 x.2], .pointer (some ⟨B1, 0, none⟩), .pointer (some ⟨B2, 0, none⟩)] W fun e W' => e = .returned (.bool (isO a b x)) ∧ Below W.heap.size W W' := by
  obtain ⟨W1, hW1⟩ : ∃ W1, W.alloc (.cells #[.string x.1, .int .i64 x.2] 67) = W1 := ⟨_, rfl⟩
  have hb : Below W.heap.size W W1 := by rw [← hW1]; exact (Below.refl _ W).alloc (Nat.le_refl _) _
  have g0 : W1.heap[W.heap.size]? = some (.cells #[.string x.1, .int .i64 x.2] 67 (0, 0)) := by rw [← hW1]; exact heap_alloc_new W _
  have c0 : W1.cell? ⟨W.heap.size, 0, none⟩ = some (.string x.1) := by rw [cell_of_row _ _ _ _ _ _ g0]; rfl
  have c1 : W1.cell? ⟨W.heap.size, 1, none⟩ = some (.int .i64 x.2) := by rw [cell_of_row _ _ _ _ _ _ g0]; rfl
  have d1 : W1.cell? ⟨B1, 0, none⟩ = some (.string a) := by rw [cell_of_row _ _ _ _ _ _ ((hb.block _ (Array.getElem?_eq_some_iff.1 h1).1).trans h1)]; rfl
  have d2 : W1.cell? ⟨B2, 0, none⟩ = some (.string b) := by rw [cell_of_row _ _ _ _ _ _ ((hb.block _ (Array.getElem?_eq_some_iff.1 h2).1).trans h2)]; rfl
  have HB := Lib.hid hb
  unfold isO spc sm
  clear g0 hb h1 h2
  subst hW1
  cases hs : ((bits BinOp.and IntKind.i64 x.2 3).tmod 3 == 0) with
  | false =>
    go_enter Try.func30, Try.ntmps30
    go_wp2
    go_ret
    exact ⟨rfl, HB.out⟩
  | true =>
    cases ha : (x.1.toList == a.toList) with
    | true =>
      go_enter Try.func30, Try.ntmps30
      go_wp2
      go_ret
      exact ⟨rfl, HB.out⟩
    | false =>
      obtain ⟨q, hq⟩ : ∃ q, (x.1.toList == b.toList) = q := ⟨_, rfl⟩
      rw [hq]
      go_enter Try.func30, Try.ntmps30
      go_wp2
      go_ret
      exact ⟨rfl, HB.out⟩
end Go.Proofs.Ytfkbjniodomdjaa
