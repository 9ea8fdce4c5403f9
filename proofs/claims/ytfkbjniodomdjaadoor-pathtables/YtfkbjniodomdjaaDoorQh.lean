/- Put and Drop, whatever they answer. -/
import Derived.Test.YtfkbjniodomdjaaDoorQf
namespace Go.Proofs.YtfkbjniodomdjaaDoor
open Go.RowKit Go.Shelf Go.Lib

/-- a table that a call has turned: it is one again, of at most so many names -/
def Tnd (base T n : Nat) (v1 v2 : Value) (W : World) (e : Ending) (W' : World) : Prop :=
  ∃ b v1' v2' ns' ts', e = .returned (.bool b) ∧ TSI base T v1' v2' ns' ts' W' ∧ Srt ltS ns' ∧ ns'.length ≤ n ∧ Frm (TS T v1 v2) W W' ∧ ∀ k, TS T v1' v2' k → TS T v1 v2 k ∨ W.heap.size ≤ k
section
variable {base T : Nat} {v1 v2 : Value} {ns : List ByteArray} {ts : List Int} {W : World}
theorem put_gen (x : ByteArray) (u : Int) (h : TSI base T v1 v2 ns ts W) (hs : Srt ltS ns) (hl : ns.length < 1000000) : Calls Tryd.prog 9 #[.pointer (some ⟨T, 0, none⟩), .string x, .int .i64 u] W (Tnd base T (ns.length + 1) v1 v2 W) := by
  by_cases hx : x ∈ ns
  · refine (putSI_old x u W h hs hx hl).mono ?_
    rintro e W' ⟨rfl, ht, hf⟩
    refine ⟨_, v1, v2, ns, ts.set (plc ltS ns x) u, rfl, ?_, hs, by omega, hf, fun k hk => .inl hk⟩
    unfold TSI
    rw [List.map_set]
    exact ht
  · refine (putSI_new x u W h (fun y hy => by rw [List.mem_map] at hy; obtain ⟨z, _, rfl⟩ := hy; rfl) hs hx hl).mono ?_
    rintro e W' ⟨rfl, v1', v2', ht, hf, hn⟩
    refine ⟨_, v1', v2', insAt ns (plc ltS ns x) x, insAt ts (plc ltS ns x) u, rfl, ?_, srt_ins ordS ns x hs hx, by rw [len_insAt _ _ _ (plc_le ns x)]; exact Nat.le_refl _, hf, hn⟩
    unfold TSI
    rw [show (insAt ts (plc ltS ns x) u).map (Value.int .i64) = insAt (ts.map (Value.int .i64)) (plc ltS ns x) (.int .i64 u) by simp [insAt, List.map_take, List.map_drop]]
    exact ht
theorem drop_gen (x : ByteArray) (h : TSI base T v1 v2 ns ts W) (hs : Srt ltS ns) (hl : ns.length < 1000000) : Calls Tryd.prog 11 #[.pointer (some ⟨T, 0, none⟩), .string x] W (Tnd base T ns.length v1 v2 W) := by
  by_cases hx : x ∈ ns
  · refine (drop_some x W h hs hx hl).mono ?_
    rintro e W' ⟨rfl, v1', v2', ht, hf, hn⟩
    exact ⟨_, v1', v2', _, _, rfl, ht, srt_erase hs _, List.length_eraseIdx_le _ _, hf, fun k hk => .inl (hn k hk)⟩
  · refine (drop_none x W h hs hx hl).mono ?_
    rintro e W' ⟨rfl, q, rfl⟩
    exact ⟨_, v1, v2, ns, ts, rfl, h.below (below_drewN (Below.refl _ W) q), hs, Nat.le_refl _, Frm.drewN _ W q, fun k hk => .inl hk⟩
/-- what turned lies beyond what was there ahead -/
theorem Tnd.below {n B : Nat} {e : Ending} {W' : World} (hB : B ≤ W.heap.size) (hT : ∀ k, TS T v1 v2 k → B ≤ k) (h : Tnd base T n v1 v2 W e W') : Below B W W' := by
  obtain ⟨_, _, _, _, _, _, _, _, _, hf, _⟩ := h
  exact hf.toBelow hB hT
theorem Tab.weak {tt e1 e2 : TypeId} {b b' : Nat} {xs ys : List Value} (h : Tab tt e1 e2 b T v1 v2 xs ys W) (hb : b' ≤ b) : Tab tt e1 e2 b' T v1 v2 xs ys W :=
  ⟨h.hd, own_weak h.r1 hb, own_weak h.r2 hb, Nat.le_trans hb h.ge⟩
end
end Go.Proofs.YtfkbjniodomdjaaDoor
