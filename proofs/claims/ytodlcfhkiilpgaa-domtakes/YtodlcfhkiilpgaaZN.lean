/- Slices of texts in memory (as Kv has them, for seats without tokens' openers). Is. -/
import Derived.Test.YtodlcfhkiilpgaaZA
import Derived.Test.YtodlcfhkiilpgaaZB
import Derived.Deep.QuietTactic
import Derived.BigQuiet
namespace Go.Proofs.Ytodlcfhkiilpgaa
open Go.RowKit

/-- the slice at A holds the texts zs -/
def RdT (w : World) (A : Option Addr) (zs : List ByteArray) : Prop :=
  zs = [] ∨ ∃ b off, A = some ⟨b, off, none⟩ ∧ b < w.heap.size ∧ ∀ (i : Nat) (x : ByteArray), zs[i]? = some x → w.cell? ⟨b, off + i, none⟩ = some (.string x)
theorem RdT.below {w w' : World} {A : Option Addr} {zs : List ByteArray} (h : RdT w A zs) (hb : Below w.heap.size w w') : RdT w' A zs := by
  rcases h with h | ⟨b, off, rfl, hl, h⟩
  · exact .inl h
  · exact .inr ⟨b, off, rfl, Nat.lt_of_lt_of_le hl hb.size, fun i x hi => (hb.cell (p := ⟨b, off + i, none⟩) hl).trans (h i x hi)⟩
theorem RdT.at_ {w : World} {A : Option Addr} {zs : List ByteArray} {i : Nat} {x : ByteArray} (h : RdT w A zs) (hx : zs[i]? = some x) : ∃ b off, A = some ⟨b, off, none⟩ ∧ b < w.heap.size ∧ w.cell? ⟨b, off + i, none⟩ = some (.string x) := by
  rcases h with rfl | ⟨b, off, hA, hb, h⟩
  · simp at hx
  · exact ⟨b, off, hA, hb, h i x hx⟩
end Go.Proofs.Ytodlcfhkiilpgaa
namespace Go.Proofs.Ytodlcfhkiilpgaa
open Go.RowKit Go.Lib
attribute [local go_sem] Oper.semAt_some

def amg (zs : List ByteArray) (n : ByteArray) : Bool := zs.any fun z => sm z n
theorem cont_any (zs : List ByteArray) (n : ByteArray) (A : Option Addr) (cap : Nat) (w : World) (h : RdT w A zs) (hl : zs.length ≤ 1000000) :
    Calls Try.prog 83 #[.slice A zs.length cap, .string n] w fun e w' => e = .returned (.bool (amg zs n)) ∧ w = w' := by
  rcases h with rfl | ⟨b, off, rfl, hb, hc⟩
  · refine (Any.slices_Contains_string_empty Try.kcontains A cap n w).mono ?_
    rintro e w' ⟨rfl, rfl⟩
    exact ⟨rfl, rfl⟩
  · refine (Any.slices_Contains_string Try.kcontains b off zs.length cap zs n w (Nat.le_refl _) (by omega) (fun j hj => ?_)).mono ?_
    · rw [hc j _ (List.getElem?_eq_getElem hj), List.getD, List.getElem?_eq_getElem hj]
      rfl
    · rintro e w' ⟨rfl, rfl⟩
      refine ⟨?_, rfl⟩
      congr 2
      rw [Bool.eq_iff_iff, List.take_of_length_le (Nat.le_refl _), Lib.containsS_iff]
      unfold amg
      rw [List.any_eq_true]
      constructor
      · intro h; exact ⟨n, h, sm_self n⟩
      · rintro ⟨z, hz, hz2⟩
        rw [← sm_iff.1 hz2]
        exact hz
/-- whether a node is an element of HTML of one of some names -/
def isN (ns : List Nd) (n : Int) (zs : List ByteArray) : Bool := atN ns n (fun x => x.kind == 2 && x.space == 0 && amg zs x.name) false
section
variable {base D : Nat} {v : Value} {qk : Bool} {ns : List Nd}
set_option maxHeartbeats 600000 in
theorem is_any (n : Int) (zs : List ByteArray) (A : Option Addr) (cap : Nat) (W : World) (h : DocM base D v qk ns W) (hz : RdT W A zs) (hl : zs.length ≤ 1000000) :
    Calls Try.prog 58 #[.pointer (some ⟨D, 0, none⟩), .int .i64 n, .slice A zs.length cap] W fun e W' => e = .returned (.bool (isN ns n zs)) ∧ W' = W := by
  have KK := Lib.hid (kind_any n W h)
  unfold isN
  cases hn : inN ns n with
  | false =>
    rw [atN_none hn] at KK ⊢
    clear h hn hz
    go_enter Try.func58, Try.ntmps58
    go_wp2_with fail
    refine KK.out.mono ?_
    rintro e w1 ⟨rfl, rfl⟩
    go_wp2
    go_ret
    exact ⟨rfl, rfl⟩
  | true =>
    obtain ⟨i, x, rfl, hx⟩ := inN_at hn
    rw [atN_some hx] at KK ⊢
    obtain ⟨An, capn, rfl, hle, hmx, hg⟩ := h.sl
    have hi := (List.getElem?_eq_some_iff.1 hx).1
    obtain ⟨g, rfl, _, _⟩ := hg (by omega)
    have c0 := h.cells.1
    have k1 : W.cell? ⟨g, i * 10 + 1, none⟩ = some (.int .i64 x.space) := h.cell hx (show 1 < 10 by omega)
    have k2 : W.cell? ⟨g, i * 10 + 2, none⟩ = some (.string x.name) := h.cell hx (show 2 < 10 by omega)
    have KC := Lib.hid (cont_any zs x.name A cap W hz hl)
    unfold maxLen at hmx
    clear h hx hg hn hz
    cases hk : (x.kind == 2) with
    | false =>
      rw [Bool.false_and, Bool.false_and]
      go_enter Try.func58, Try.ntmps58
      go_wp2_with fail
      refine KK.out.mono ?_
      rintro e w1 ⟨rfl, rfl⟩
      go_wp2
      go_ret
      exact ⟨rfl, rfl⟩
    | true =>
      cases hs : (x.space == 0) with
      | false =>
        rw [Bool.true_and, Bool.false_and]
        go_enter Try.func58, Try.ntmps58
        go_wp2_with fail
        refine KK.out.mono ?_
        rintro e w1 ⟨rfl, rfl⟩
        go_wp2
        go_ret
        exact ⟨rfl, rfl⟩
      | true =>
        rw [Bool.true_and, Bool.true_and]
        obtain ⟨b, hb⟩ : ∃ b, amg zs x.name = b := ⟨_, rfl⟩
        rw [hb] at KC ⊢
        clear hb
        go_enter Try.func58, Try.ntmps58
        go_wp2_with fail
        refine KK.out.mono ?_
        rintro e w1 ⟨rfl, rfl⟩
        go_wp2_with fail
        refine KC.out.mono ?_
        rintro e w1 ⟨rfl, rfl⟩
        go_wp2
        go_ret
        exact ⟨rfl, rfl⟩
end
end Go.Proofs.Ytodlcfhkiilpgaa
