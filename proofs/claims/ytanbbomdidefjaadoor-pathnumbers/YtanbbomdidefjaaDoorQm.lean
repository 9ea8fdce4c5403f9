/- Maps of numbers to truth, as sets with their size. -/
import Derived.Test.YtanbbomdidefjaaDoorProg
import Derived.Test.YtanbbomdidefjaaDoorMem
import Derived.Maps.OwnSet
import Derived.Maps.RangeWalk
import Derived.Lib.Hide
import Derived.RangeFuncFrom
namespace Go.Proofs.YtanbbomdidefjaaDoor
open Go.RowKit Go.Maps Go.WideMaps

def bdt (z : Bool) : DataW Unit := .lit (.bool z)
def bvt : Value → Option (DataW Unit × List MemPlace)
  | .bool z => some (bdt z, [])
  | _ => none
theorem bvt_inv {v : Value} {d : DataW Unit} {ps : List MemPlace} (h : bvt v = some (d, ps)) : ∃ z, v = .bool z ∧ d = bdt z := by
  unfold bvt at h
  split at h
  · simp at h
    exact ⟨_, rfl, h.1.symm⟩
  · cases h
theorem bdt_inj {a b : Bool} (h : bdt a = bdt b) : a = b := by
  unfold bdt at h
  injection h with h
  injection h
theorem KIn : Keyed Tryd.prog 3 := int_keyed Tryd.underlying3
/-- a number of 64 bits -/
def I64 (z : Int) : Prop := (Lit.int .i64 z).wf = true

/-- block b is a map of at most n numbers, c of them, to whether S has them -/
def MapB (w : World) (b n c : Nat) (S : Int → Bool) : Prop :=
  ∃ D : DataW Unit, w.ownsMap Tryd.prog 3 bvt b n D ∧ Maps.size D = c ∧ ∀ z : Int, has D (.int .i64 z) = S z ∧ D.atKey (.int .i64 z) (bdt false) = bdt (S z)

section
variable {w w' : World} {b n c : Nat} {S : Int → Bool}
theorem MapB.lt (h : MapB w b n c S) : b < w.heap.size := by
  obtain ⟨D, h1, _⟩ := h
  exact h1.lt
theorem MapB.ofBlock (h : MapB w b n c S) (hb : w'.heap[b]? = w.heap[b]?) : MapB w' b n c S := by
  obtain ⟨D, ⟨es, cl, h1, h2⟩, h3⟩ := h
  exact ⟨D, ⟨es, cl, hb.trans h1, h2⟩, h3⟩
theorem MapB.block (h : MapB w b n c S) : ∃ o : Obj, w.heap[b]? = some o ∧ o.isCells = false := by
  obtain ⟨D, ⟨es, cl, h1, h2⟩, h3⟩ := h
  exact ⟨_, h1, rfl⟩
theorem MapB.new (w : World) : MapB (w.alloc (.map #[] 0)) w.heap.size 0 0 (fun _ => false) :=
  ⟨.map [], World.ownsMap_made w Tryd.prog 3 bvt, rfl, fun _ => ⟨rfl, rfl⟩⟩
theorem MapB.look0 (h : MapB w b n c S) (z : Int) (hz : I64 z) : (Instr.lookup 46 (.map (some b)) (.int .i64 z) false).run Tryd.prog w = .ok (.bool (S z)) w := by
  obtain ⟨D, h1, _, h2⟩ := h
  obtain ⟨v, ps, hrun, hv⟩ := h1.lookup KIn Tryd.underlying46 (z := .bool false) (by kernel_rfl) (show bvt (.bool false) = some (bdt false, []) from rfl) (keyOf_int_mk Tryd.underlying3 hz)
  obtain ⟨y, rfl, hv2⟩ := bvt_inv hv
  obtain ⟨e1, e2⟩ := h2 z
  have : y = S z := bdt_inj (by rw [← e2]; exact hv2.symm)
  rw [hrun, this]
theorem MapB.set (h : MapB w b n c S) (z : Int) (hz : I64 z) (hn : n < maxLen) :
    ∃ w', (Instr.mapUpdate 46 (.map (some b)) (.int .i64 z) (.bool true)).run Tryd.prog w = .ok () w' ∧ MapB w' b (n + 1) (if S z then c else c + 1) (fun t => if t = z then true else S t) ∧ w.grownBy w' (some b) := by
  obtain ⟨D, h1, hc, h2⟩ := h
  obtain ⟨w', hrun, h3, h4⟩ := h1.update KIn Tryd.underlying46 hn (keyOf_int_mk Tryd.underlying3 hz) (show bvt (.bool true) = some (bdt true, []) from rfl)
  refine ⟨w', hrun, ⟨_, h3, ?_, fun t => ?_⟩, h4⟩
  · rw [Maps.size_put (h1.tidy KIn), (h2 z).1, hc]
  · by_cases e : t = z
    · subst e
      simp only [if_true]
      exact ⟨has_put_same h1.isMap (KIn.key (keyOf_int_mk Tryd.underlying3 hz)) _, atKey_put_same h1.isMap (KIn.key (keyOf_int_mk Tryd.underlying3 hz)) _ _⟩
    · simp only [if_neg e]
      have hne : (Lit.int .i64 t) ≠ Lit.int .i64 z := fun h => e (by injection h)
      obtain ⟨e1, e2⟩ := h2 t
      exact ⟨(has_put_other hne _).trans e1, (atKey_put_other hne _ _).trans e2⟩
theorem MapB.le (h : MapB w b n c S) : c ≤ n := by
  obtain ⟨D, h1, hc, h2⟩ := h
  rw [← hc]
  exact h1.size_le
theorem MapB.ext {S' : Int → Bool} {c' : Nat} (h : MapB w b n c S) (hc : c = c') (e : ∀ z, S z = S' z) : MapB w b n c' S' := by
  rw [← hc, show S' = S from funext fun z => (e z).symm]
  exact h
theorem MapB.len (h : MapB w b n c S) (ty : TypeId) : (Builtin.len_ #[46] ty #[.map (some b)]).run Tryd.prog w = .ok (.int .i64 c) w := by
  obtain ⟨D, h1, hc, h2⟩ := h
  have := h1.len Tryd.underlying46 ty
  rwa [hc] at this
end
end Go.Proofs.YtanbbomdidefjaaDoor
