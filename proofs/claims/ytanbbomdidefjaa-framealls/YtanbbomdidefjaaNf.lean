/- What a Reader's Num and Text answer, as functions of what is left; num.Read. -/
import Derived.Test.YtanbbomdidefjaaNe
import Derived.Deep.WholeRow
namespace Go.Proofs.Ytanbbomdidefjaa
open Go.RowKit

def none8 : ByteArray := ⟨#[]⟩
/-- Num: the answer, what is left, the error -/
def numS (rest : ByteArray) (m : Nat) : Nat × ByteArray × Int :=
  if (Nx.go (bs rest) 0 0).2.2 ≠ 0 then (0, none8, (Nx.go (bs rest) 0 0).2.2)
  else if m < (Nx.go (bs rest) 0 0).1 then (0, none8, 3)
  else ((Nx.go (bs rest) 0 0).1, rest.extract (Nx.go (bs rest) 0 0).2.1 rest.size, 0)
def textS (rest : ByteArray) (m : Nat) : ByteArray × ByteArray × Int :=
  if (numS rest m).2.2 ≠ 0 then (none8, (numS rest m).2.1, (numS rest m).2.2)
  else if (numS rest m).2.1.size < (numS rest m).1 then (none8, none8, 8)
  else ((numS rest m).2.1.extract 0 (numS rest m).1, (numS rest m).2.1.extract (numS rest m).1 (numS rest m).2.1.size, 0)

theorem go_bs (s : ByteArray) : ((Nx.go (bs s) 0 0).2.2 = 0 ∧ (Nx.go (bs s) 0 0).2.1 ≤ s.size ∧ (Nx.go (bs s) 0 0).1 < 18446744073709551616) ∨ (((Nx.go (bs s) 0 0).2.2 = 2 ∨ (Nx.go (bs s) 0 0).2.2 = 8) ∧ (Nx.go (bs s) 0 0).1 = 0 ∧ (Nx.go (bs s) 0 0).2.1 = 0) := by
  rcases Nx.go_shape (bs s) 0 0 (by omega) (by decide) (bs_rng s) with h | h
  · exact .inl ⟨h.1, by have := h.2.2.1; rw [bs_len] at this; omega, h.2.2.2⟩
  · exact .inr h
theorem numS_lt (s : ByteArray) (m : Nat) : (numS s m).1 < 18446744073709551616 := by
  unfold numS
  rcases go_bs s with h | h
  · split
    · simp
    · split
      · simp
      · exact h.2.2
  · rw [if_pos (by rcases h.1 with e | e <;> rw [e] <;> decide)]
    simp
theorem numS_rng (s : ByteArray) (m : Nat) : 0 ≤ (numS s m).2.2 ∧ (numS s m).2.2 ≤ 8 := by
  unfold numS
  rcases go_bs s with h | h
  · split
    · omega
    · split <;> simp
  · split
    · rcases h.1 with e | e <;> simp [e]
    · split <;> simp
theorem numS_size (s : ByteArray) (m : Nat) : (numS s m).2.1.size ≤ s.size := by
  unfold numS
  split
  · exact Nat.zero_le _
  · split
    · exact Nat.zero_le _
    · simp
theorem Num_any (g : Nat) (rest : ByteArray) (m : Nat) (w : World) (h : Rdr w g rest 0) (hl : rest.size ≤ 1000000) :
    Calls Try.prog 30 #[.pointer (some ⟨g, 0, none⟩), .int .u64 m] w (Turned w g (.int .u64 (numS rest m).1) (numS rest m).2.1 (numS rest m).2.2) := by
  unfold numS
  by_cases he : (Nx.go (bs rest) 0 0).2.2 ≠ 0
  · rw [if_pos he]
    exact Num_first g rest m _ _ _ w h hl rfl (by simpa using he)
  · rw [if_neg he]
    have he' : (Nx.go (bs rest) 0 0).2.2 = 0 := Decidable.not_not.1 he
    have hgo : Nx.go (bs rest) 0 0 = ((Nx.go (bs rest) 0 0).1, (Nx.go (bs rest) 0 0).2.1, 0) := by
      rw [← he']
    by_cases hm : m < (Nx.go (bs rest) 0 0).1
    · rw [if_pos hm]
      exact Num_many g rest m _ _ w h hl hgo hm
    · rw [if_neg hm]
      refine Num_ok g rest m _ _ w h hl hgo (by omega) ?_
      rcases go_bs rest with h | h
      · exact h.2.1
      · rw [h.2.2]; omega

theorem grown_then {a b c : World} {g : Nat} (h : a.grownBy b (some g)) (k : b.grownBy c (some g)) : a.grownBy c (some g) :=
  ⟨k.os.trans h.os, k.tape.trans h.tape, k.output.trans h.output, Nat.le_trans h.size k.size, fun i hi hn => (k.block i (Nat.lt_of_lt_of_le hi h.size) hn).trans (h.block i hi hn)⟩

/-- Read: a reader of these bytes, in a block of its own -/
def ReadPost (b : List Int) (w : World) (e : Ending) (w' : World) : Prop :=
  ∃ g, e = .returned (.pointer (some ⟨g, 0, none⟩)) ∧ Rdr w' g (strOfNums b) 0 ∧ w.heap.size ≤ g ∧ Below w.heap.size w w'
theorem conv_rd {t e u : TypeId} {P : Program} (ht : P.underlying t = some (.slice e)) (he : P.underlying e = some (.int .u8)) (hu : P.underlying u = some .string) {w : World} {b : List Int} {bb off cap : Nat} (hc : ∀ i, i < b.length → w.cell? ⟨bb, off + i, none⟩ = some (.int .u8 (b[i]?.getD 0))) :
    (convert t u (.slice (some ⟨bb, off, none⟩) b.length cap)).run P w = .ok (.string (strOfNums b)) w :=
  run_convert_bytes_arg w t e ht he bb off b.length cap b rfl (fun i hi => by rw [hc i hi]; simp) u hu
/-- the bytes of a slice that may be nil, as a string -/
theorem conv_any {t e u : TypeId} {P : Program} (ht : P.underlying t = some (.slice e)) (he : P.underlying e = some (.int .u8)) (hu : P.underlying u = some .string) {w : World} {b : List Int} {A : Option Addr} {cap : Nat} (hr : Rd w .u8 A b) :
    (convert t u (.slice A b.length cap)).run P w = .ok (.string (strOfNums b)) w := by
  rcases hr with rfl | ⟨bb, off, rfl, _, hc⟩
  · cases A with
    | none => exact run_convert_bytes_nil w t e ht he 0 cap u hu
    | some a => exact run_convert_bytes_back w t u e a cap [] ht he hu (fun j hj => absurd hj (by simp))
  · exact conv_rd ht he hu hc

set_option maxHeartbeats 400000 in
theorem Read_any (b : List Int) (A : Option Addr) (n cap : Nat) (w : World) (hr : Rd w .u8 A b) (hn : n = b.length) : Calls Try.prog 29 #[.slice A n cap] w (ReadPost b w) := by
  have hv := conv_any (P := Try.prog) (u := 9) (cap := cap) Try.underlying24 Try.underlying5 Try.underlying9 hr
  rw [← hn] at hv
  clear hr hn
  go_enter Try.func29, Try.ntmps29
  go_wp2
  go_ret
  exact ⟨_, rfl, heap_alloc_last _ _, Nat.le_refl _, (Below.refl _ _).alloc (Nat.le_refl _) _⟩

end Go.Proofs.Ytanbbomdidefjaa
