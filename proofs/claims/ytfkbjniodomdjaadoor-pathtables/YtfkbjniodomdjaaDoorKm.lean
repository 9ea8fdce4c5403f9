/- Maps of names to numbers, as functions. -/
import Derived.Test.YtfkbjniodomdjaaDoorProg
import Derived.Test.YtfkbjniodomdjaaDoorMem
import Derived.Maps.OwnSet
import Derived.Maps.RangeWalk
import Derived.Lib.Hide
namespace Go.Proofs.YtfkbjniodomdjaaDoor
open Go.RowKit Go.Maps Go.WideMaps

def nd (z : Int) : DataW Unit := .lit (.int .i64 z)
def nv : Value → Option (DataW Unit × List MemPlace)
  | .int .i64 z => some (nd z, [])
  | _ => none
theorem nv_inv {v : Value} {d : DataW Unit} {ps : List MemPlace} (h : nv v = some (d, ps)) : ∃ z, v = .int .i64 z ∧ d = nd z := by
  unfold nv at h
  split at h
  · simp at h
    exact ⟨_, rfl, h.1.symm⟩
  · cases h
theorem nd_inj {a b : Int} (h : nd a = nd b) : a = b := by
  unfold nd at h
  injection h with h
  injection h
/-- a key -/
def kyN (s : ByteArray) : Lit := .string s.data.toList
theorem kyN_inj {s t : ByteArray} (h : kyN s = kyN t) : s = t := by
  unfold kyN at h
  injection h with h
  exact ByteArray.ext (Array.toList_inj.1 h)
theorem KN : Keyed Tryd.prog 9 := string_keyed Tryd.underlying9

/-- block b is a map of at most n names, to the numbers that V says -/
def MapN (w : World) (b n : Nat) (V : ByteArray → Option Int) : Prop :=
  ∃ D : DataW Unit, w.ownsMap Tryd.prog 9 nv b n D ∧ ∀ s : ByteArray, has D (kyN s) = (V s).isSome ∧ D.atKey (kyN s) (nd 0) = nd ((V s).getD 0)

section
variable {w w' : World} {b n : Nat} {V : ByteArray → Option Int}
theorem MapN.lt (h : MapN w b n V) : b < w.heap.size := by
  obtain ⟨D, h1, _⟩ := h
  exact h1.lt
theorem MapN.kept {row : Option Nat} (h : MapN w b n V) (hg : w.grownBy w' row) (hne : some b ≠ row) : MapN w' b n V := by
  obtain ⟨D, h1, h2⟩ := h
  exact ⟨D, h1.kept hg hne, h2⟩
theorem MapN.ofBlock (h : MapN w b n V) (hb : w'.heap[b]? = w.heap[b]?) : MapN w' b n V := by
  obtain ⟨D, ⟨es, cl, h1, h2⟩, h3⟩ := h
  exact ⟨D, ⟨es, cl, hb.trans h1, h2⟩, h3⟩
theorem MapN.below {B : Nat} (h : MapN w b n V) (hb : Below B w w') (hB : b < B) : MapN w' b n V := h.ofBlock (hb.block b hB)
theorem MapN.ext {V' : ByteArray → Option Int} (h : MapN w b n V) (e : ∀ s, V s = V' s) : MapN w b n V' := by
  rw [show V' = V from funext fun s => (e s).symm]; exact h
theorem MapN.mono {m : Nat} (h : MapN w b n V) (hm : n ≤ m) : MapN w b m V := by
  obtain ⟨D, h1, h2⟩ := h
  exact ⟨D, h1.mono hm, h2⟩
theorem MapN.new (w : World) : MapN (w.alloc (.map #[] 0)) w.heap.size 0 (fun _ => none) :=
  ⟨.map [], World.ownsMap_made w Tryd.prog 9 nv, fun _ => ⟨rfl, rfl⟩⟩
theorem MapN.look (h : MapN w b n V) (s : ByteArray) (hs : s.size ≤ maxLen) : (Instr.lookup 29 (.map (some b)) (.string s) true).run Tryd.prog w = .ok (.tuple #[.int .i64 ((V s).getD 0), .bool (V s).isSome]) w := by
  obtain ⟨D, h1, h2⟩ := h
  obtain ⟨v, ps, hrun, hv⟩ := h1.look_ok KN Tryd.underlying29 (z := .int .i64 0) (by kernel_rfl) (show nv (.int .i64 0) = some (nd 0, []) from rfl) (keyOf_string_mk Tryd.underlying9 hs)
  obtain ⟨z, rfl, hv2⟩ := nv_inv hv
  obtain ⟨e1, e2⟩ := h2 s
  have : z = (V s).getD 0 := nd_inj (by rw [← e2]; exact hv2.symm)
  rw [hrun, this, ← e1]
  rfl
theorem MapN.look0 (h : MapN w b n V) (s : ByteArray) (hs : s.size ≤ maxLen) : (Instr.lookup 29 (.map (some b)) (.string s) false).run Tryd.prog w = .ok (.int .i64 ((V s).getD 0)) w := by
  obtain ⟨D, h1, h2⟩ := h
  obtain ⟨v, ps, hrun, hv⟩ := h1.lookup KN Tryd.underlying29 (z := .int .i64 0) (by kernel_rfl) (show nv (.int .i64 0) = some (nd 0, []) from rfl) (keyOf_string_mk Tryd.underlying9 hs)
  obtain ⟨z, rfl, hv2⟩ := nv_inv hv
  obtain ⟨e1, e2⟩ := h2 s
  have : z = (V s).getD 0 := nd_inj (by rw [← e2]; exact hv2.symm)
  rw [hrun, this]
theorem MapN.set (h : MapN w b n V) (s : ByteArray) (hs : s.size ≤ maxLen) (hn : n < maxLen) (z : Int) :
    ∃ w', (Instr.mapUpdate 29 (.map (some b)) (.string s) (.int .i64 z)).run Tryd.prog w = .ok () w' ∧ MapN w' b (n + 1) (fun t => if t = s then some z else V t) ∧ w.grownBy w' (some b) := by
  obtain ⟨D, h1, h2⟩ := h
  obtain ⟨w', hrun, h3, h4⟩ := h1.update KN Tryd.underlying29 hn (keyOf_string_mk Tryd.underlying9 hs) (show nv (.int .i64 z) = some (nd z, []) from rfl)
  refine ⟨w', hrun, ⟨_, h3, fun t => ?_⟩, h4⟩
  by_cases e : t = s
  · subst e
    simp only [if_true]
    exact ⟨has_put_same h1.isMap (KN.key (keyOf_string_mk Tryd.underlying9 hs)) _, atKey_put_same h1.isMap (KN.key (keyOf_string_mk Tryd.underlying9 hs)) _ _⟩
  · simp only [if_neg e]
    have hne : kyN t ≠ kyN s := fun h => e (kyN_inj h)
    obtain ⟨e1, e2⟩ := h2 t
    exact ⟨(has_put_other hne _).trans e1, (atKey_put_other hne _ _).trans e2⟩
theorem MapN.del (h : MapN w b n V) (s : ByteArray) (hs : s.size ≤ maxLen) (ty : TypeId) :
    ∃ w', (Builtin.delete_ #[29, 9] ty #[.map (some b), .string s]).run Tryd.prog w = .ok (.tuple #[]) w' ∧ MapN w' b n (fun t => if t = s then none else V t) ∧ w.grownBy w' (some b) := by
  obtain ⟨D, h1, h2⟩ := h
  obtain ⟨w', hrun, h3, h4⟩ := h1.drop KN Tryd.underlying29 (keyOf_string_mk Tryd.underlying9 hs) ty
  refine ⟨w', hrun, ⟨_, h3, fun t => ?_⟩, h4.grown⟩
  by_cases e : t = s
  · subst e
    simp only [if_true]
    exact ⟨has_del_same, atKey_del_same _⟩
  · simp only [if_neg e]
    have hne : kyN t ≠ kyN s := fun h => e (kyN_inj h)
    obtain ⟨e1, e2⟩ := h2 t
    exact ⟨(has_del_other hne).trans e1, (atKey_del_other hne _).trans e2⟩
end
end Go.Proofs.YtfkbjniodomdjaaDoor
