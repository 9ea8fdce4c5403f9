/- Maps of names to slices of bytes, as functions. -/
import Derived.Test.YtpljmoiemmaecaaProg
import Derived.Test.YtpljmoiemmaecaaMem
import Derived.Maps.OwnSet
import Derived.Maps.RangeWalk
import Derived.Lib.Hide
namespace Go.Proofs.Ytpljmoiemmaecaa
open Go.RowKit Go.Maps Go.WideMaps

/-- a slice as a datum -/
def sd : Value → DataW Unit
  | .slice none n c => .agg [.nil, .lit (.int .i64 n), .lit (.int .i64 c)]
  | .slice (some ⟨b, o, none⟩) n c => .agg [.lit (.int .i64 b), .lit (.int .i64 o), .lit (.int .i64 n), .lit (.int .i64 c)]
  | _ => .nil
def isS : Value → Bool
  | .slice none _ _ => true
  | .slice (some ⟨_, _, none⟩) _ _ => true
  | _ => false
def sv (v : Value) : Option (DataW Unit × List MemPlace) := if isS v = true then some (sd v, []) else none
def nilS : Value := .slice none 0 0
theorem sd_inj {v v' : Value} (h : isS v = true) (h' : isS v' = true) (e : sd v = sd v') : v = v' := by
  unfold isS at h h'
  split at h <;> split at h' <;> simp_all [sd]
  all_goals omega
theorem sv_mk {v : Value} (h : isS v = true) : sv v = some (sd v, []) := by unfold sv; rw [if_pos h]
theorem sv_inv {v : Value} {d : DataW Unit} {ps : List MemPlace} (h : sv v = some (d, ps)) : isS v = true ∧ d = sd v := by
  unfold sv at h
  split at h
  · rename_i hv
    simp at h
    exact ⟨hv, h.1.symm⟩
  · cases h

/-- a key -/
def ky (s : ByteArray) : Lit := .string s.data.toList
theorem ky_inj {s t : ByteArray} (h : ky s = ky t) : s = t := by
  unfold ky at h
  injection h with h
  exact ByteArray.ext (Array.toList_inj.1 h)
theorem K : Keyed Try.prog 9 := string_keyed Try.underlying9

/-- block b is a map of at most n names, to the slices that V says -/
def MapV (w : World) (b n : Nat) (V : ByteArray → Option Value) : Prop :=
  ∃ D : DataW Unit, w.ownsMap Try.prog 9 sv b n D ∧ ∀ s : ByteArray, has D (ky s) = (V s).isSome ∧ D.atKey (ky s) (sd nilS) = sd ((V s).getD nilS) ∧ isS ((V s).getD nilS) = true

section
variable {w w' : World} {b n : Nat} {V : ByteArray → Option Value}
theorem MapV.lt (h : MapV w b n V) : b < w.heap.size := by
  obtain ⟨D, h1, _⟩ := h
  exact h1.lt
theorem MapV.kept {row : Option Nat} (h : MapV w b n V) (hg : w.grownBy w' row) (hne : some b ≠ row) : MapV w' b n V := by
  obtain ⟨D, h1, h2⟩ := h
  exact ⟨D, h1.kept hg hne, h2⟩
theorem MapV.ofBlock (h : MapV w b n V) (hb : w'.heap[b]? = w.heap[b]?) : MapV w' b n V := by
  obtain ⟨D, ⟨es, cl, h1, h2⟩, h3⟩ := h
  exact ⟨D, ⟨es, cl, hb.trans h1, h2⟩, h3⟩
theorem MapV.new (w : World) : MapV (w.alloc (.map #[] 0)) w.heap.size 0 (fun _ => none) :=
  ⟨.map [], World.ownsMap_made w Try.prog 9 sv, fun _ => ⟨rfl, rfl, rfl⟩⟩
theorem MapV.look (h : MapV w b n V) (s : ByteArray) (hs : s.size ≤ maxLen) : (Instr.lookup 56 (.map (some b)) (.string s) true).run Try.prog w = .ok (.tuple #[(V s).getD nilS, .bool (V s).isSome]) w := by
  obtain ⟨D, h1, h2⟩ := h
  obtain ⟨v, ps, hrun, hv⟩ := h1.look_ok K Try.underlying56 (z := nilS) (by kernel_rfl) (sv_mk rfl) (keyOf_string_mk Try.underlying9 hs)
  obtain ⟨hv1, hv2⟩ := sv_inv hv
  obtain ⟨e1, e2, e3⟩ := h2 s
  have : v = (V s).getD nilS := sd_inj hv1 e3 (by rw [← e2]; exact hv2.symm)
  rw [hrun, this, ← e1]
  rfl
theorem MapV.look0 (h : MapV w b n V) (s : ByteArray) (hs : s.size ≤ maxLen) : (Instr.lookup 56 (.map (some b)) (.string s) false).run Try.prog w = .ok ((V s).getD nilS) w := by
  obtain ⟨D, h1, h2⟩ := h
  obtain ⟨v, ps, hrun, hv⟩ := h1.lookup K Try.underlying56 (z := nilS) (by kernel_rfl) (sv_mk rfl) (keyOf_string_mk Try.underlying9 hs)
  obtain ⟨hv1, hv2⟩ := sv_inv hv
  obtain ⟨e1, e2, e3⟩ := h2 s
  have : v = (V s).getD nilS := sd_inj hv1 e3 (by rw [← e2]; exact hv2.symm)
  rw [hrun, this]
theorem MapV.set (h : MapV w b n V) (s : ByteArray) (hs : s.size ≤ maxLen) (hn : n < maxLen) (v : Value) (hv : isS v = true) :
    ∃ w', (Instr.mapUpdate 56 (.map (some b)) (.string s) v).run Try.prog w = .ok () w' ∧ MapV w' b (n + 1) (fun t => if t = s then some v else V t) ∧ w.grownBy w' (some b) := by
  obtain ⟨D, h1, h2⟩ := h
  obtain ⟨w', hrun, h3, h4⟩ := h1.update K Try.underlying56 hn (keyOf_string_mk Try.underlying9 hs) (sv_mk hv)
  refine ⟨w', hrun, ⟨_, h3, fun t => ?_⟩, h4⟩
  by_cases e : t = s
  · subst e
    simp only [if_true]
    exact ⟨has_put_same h1.isMap (K.key (keyOf_string_mk Try.underlying9 hs)) _, atKey_put_same h1.isMap (K.key (keyOf_string_mk Try.underlying9 hs)) _ _, hv⟩
  · simp only [if_neg e]
    have hne : ky t ≠ ky s := fun h => e (ky_inj h)
    obtain ⟨e1, e2, e3⟩ := h2 t
    exact ⟨(has_put_other hne _).trans e1, (atKey_put_other hne _ _).trans e2, e3⟩
theorem MapV.del (h : MapV w b n V) (s : ByteArray) (hs : s.size ≤ maxLen) (ty : TypeId) :
    ∃ w', (Builtin.delete_ #[56, 9] ty #[.map (some b), .string s]).run Try.prog w = .ok (.tuple #[]) w' ∧ MapV w' b n (fun t => if t = s then none else V t) ∧ w.grownBy w' (some b) := by
  obtain ⟨D, h1, h2⟩ := h
  obtain ⟨w', hrun, h3, h4⟩ := h1.drop K Try.underlying56 (keyOf_string_mk Try.underlying9 hs) ty
  refine ⟨w', hrun, ⟨_, h3, fun t => ?_⟩, h4.grown⟩
  by_cases e : t = s
  · subst e
    simp only [if_true]
    exact ⟨has_del_same, atKey_del_same _, rfl⟩
  · simp only [if_neg e]
    have hne : ky t ≠ ky s := fun h => e (ky_inj h)
    obtain ⟨e1, e2, e3⟩ := h2 t
    exact ⟨(has_del_other hne).trans e1, (atKey_del_other hne _).trans e2, e3⟩
theorem MapV.len (h : MapV w b n V) (ty : TypeId) : ∃ m : Nat, m ≤ n ∧ (Builtin.len_ #[56] ty #[.map (some b)]).run Try.prog w = .ok (.int .i64 m) w := by
  obtain ⟨D, h1, h2⟩ := h
  exact ⟨_, h1.size_le, h1.len Try.underlying56 ty⟩
end
theorem look_nil1 (w : World) (s : ByteArray) (hs : s.size ≤ maxLen) : (Instr.lookup 56 (.map none) (.string s) true).run Try.prog w = .ok (.tuple #[nilS, .bool false]) w :=
  Maps.look_nil true K Try.underlying56 (z := nilS) (by kernel_rfl) (keyOf_string_mk Try.underlying9 hs)
theorem look_nil0 (w : World) (s : ByteArray) (hs : s.size ≤ maxLen) : (Instr.lookup 56 (.map none) (.string s) false).run Try.prog w = .ok nilS w :=
  Maps.look_nil false K Try.underlying56 (z := nilS) (by kernel_rfl) (keyOf_string_mk Try.underlying9 hs)
end Go.Proofs.Ytpljmoiemmaecaa
