/- The law FrameTurns, walked. -/
import Derived.Test.YtanbbomdidefjaaFg
import Derived.Test.YtanbbomdidefjaaFw
namespace Go.Proofs.Ytanbbomdidefjaa
open Go.RowKit

theorem and16 (x : Int) : 0 ≤ bits .and .i64 x 65535 ∧ bits .and .i64 x 65535 ≤ 65535 := by
  have h1 : (BitVec.ofInt 64 x &&& BitVec.ofInt 64 65535).toNat ≤ 65535 := by
    rw [BitVec.toNat_and]
    exact Nat.le_trans Nat.and_le_right (by decide)
  have h2 : bits .and .i64 x 65535 = IntKind.i64.wrap ((BitVec.ofInt 64 x &&& BitVec.ofInt 64 65535).toNat : Int) := rfl
  rw [h2]
  generalize (BitVec.ofInt 64 x &&& BitVec.ofInt 64 65535).toNat = y at h1
  simp [IntKind.wrap, IntKind.bits, IntKind.signed]
  omega
theorem frame_byte {d : List Int} (h : Byte8 d) : Byte8 (Fx.frame d) := by
  intro c hc
  unfold Fx.frame at hc
  rcases List.mem_append.1 hc with hc | hc
  · rcases List.mem_append.1 hc with hc | hc
    · exact Nx.put_rng _ c hc
    · unfold Fx.four at hc
      simp only [List.mem_cons, List.not_mem_nil, or_false] at hc
      omega
  · exact h c hc
theorem xor_turn {x : Nat} {c : Nat} (hc : c ≠ 0) : x ^^^ c ≠ x := by
  intro h
  have : x ^^^ (x ^^^ c) = x ^^^ x := by rw [h]
  rw [← Nat.xor_assoc, Nat.xor_self, Nat.zero_xor] at this
  exact hc this
theorem rd_tk {w : World} {k : IntKind} {A : Option Addr} {l : List Int} (n : Nat) (h : Rd w k A l) : Rd w k A (l.take n) := by
  rcases h with rfl | ⟨b, off, e, hb, hc⟩
  · left; simp
  · refine .inr ⟨b, off, e, hb, fun i hi => ?_⟩
    have hi' : i < n ∧ i < l.length := by rw [List.length_take] at hi; omega
    rw [hc i hi'.2]
    simp [hi'.1]
theorem rd_set {w : World} {g : Nat} {X : List Int} {k : Nat} {y : Int} (h : Rd w .u8 (some ⟨g, 0, none⟩) X) (hk : k < X.length) : Rd (w.setCell ⟨g, k, none⟩ (.int .u8 y)) .u8 (some ⟨g, 0, none⟩) (X.set k y) := by
  rcases h with rfl | ⟨b, off, e, hb, hc⟩
  · simp at hk
  · injection e with e
    injection e with e1 e2
    subst e1 e2
    refine .inr ⟨g, 0, rfl, by simpa [World.setCell] using hb, fun i hi => ?_⟩
    rw [List.length_set] at hi
    rw [Nat.zero_add]
    have hci := hc i hi
    rw [Nat.zero_add] at hci
    by_cases he : k = i
    · subst he
      rw [World.cell?_setCell_same' w _ _ (by rw [hci]; rfl), List.getElem?_set_self hi]
      rfl
    · rw [World.cell?_setCell_other w _ _ _ (by intro h; injection h with h1 h2; exact he h2), hci, List.getElem?_set_ne he]

end Go.Proofs.Ytanbbomdidefjaa
