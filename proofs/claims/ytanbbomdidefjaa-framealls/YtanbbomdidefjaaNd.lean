/- Contracts of num.Read and of a Reader's methods. -/
import Derived.Test.YtanbbomdidefjaaNr
namespace Go.Proofs.Ytanbbomdidefjaa
open Go.RowKit

/-- a reader in memory -/
def Rdr (w : World) (g : Nat) (rest : ByteArray) (err : Int) : Prop := w.heap[g]? = some (.cells #[.string rest, .int .i64 err] 79 (0, 0))
section
variable {w w' : World} {g : Nat} {rest : ByteArray} {err : Int}
theorem Rdr.lt (h : Rdr w g rest err) : g < w.heap.size := (Array.getElem?_eq_some_iff.1 h).1
theorem Rdr.c0 (h : Rdr w g rest err) : w.cell? ⟨g, 0, none⟩ = some (.string rest) := by
  have h' : w.heap[g]? = _ := h
  simp [World.cell?, h']
theorem Rdr.c1 (h : Rdr w g rest err) : w.cell? ⟨g, 1, none⟩ = some (.int .i64 err) := by
  have h' : w.heap[g]? = _ := h
  simp [World.cell?, h']
theorem Rdr.fz (h : Rdr w g rest err) (i : Nat) : w.frozen? ⟨g, i, none⟩ = false := by
  have h' : w.heap[g]? = _ := h
  simp [World.frozen?, h']
theorem Rdr.set0 (h : Rdr w g rest err) (r : ByteArray) : Rdr (w.setCell ⟨g, 0, none⟩ (.string r)) g r err := by
  have h' : w.heap[g]? = _ := h
  unfold Rdr
  simp [World.setCell, Array.getElem?_modify, h']
theorem Rdr.set1 (h : Rdr w g rest err) (k : Int) : Rdr (w.setCell ⟨g, 1, none⟩ (.int .i64 k)) g rest k := by
  have h' : w.heap[g]? = _ := h
  unfold Rdr
  simp [World.setCell, Array.getElem?_modify, h']
theorem Rdr.keep (h : Rdr w g rest err) (hb : Below w.heap.size w w') : Rdr w' g rest err := (hb.block g h.lt).trans h
theorem Rdr.grown {row : Option Nat} (h : Rdr w g rest err) (hg : w.grownBy w' row) (hne : some g ≠ row) : Rdr w' g rest err := (hg.block g h.lt hne).trans h
end
theorem grown_set (w : World) (g i : Nat) (v : Value) : w.grownBy (w.setCell ⟨g, i, none⟩ v) (some g) :=
  ⟨rfl, rfl, rfl, by simp [World.setCell], fun k _ hk => Below.heap_setCell w ⟨g, i, none⟩ v k (fun e => hk (by rw [e]))⟩
theorem grown_set2 {a w : World} {g : Nat} (h : a.grownBy w (some g)) (i : Nat) (v : Value) : a.grownBy (w.setCell ⟨g, i, none⟩ v) (some g) :=
  ⟨h.os, h.tape, h.output, by simpa [World.setCell] using h.size, fun k hk hn => (Below.heap_setCell w ⟨g, i, none⟩ v k (fun e => hn (by rw [e]))).trans (h.block k hk hn)⟩

theorem Err_any (g : Nat) (rest : ByteArray) (err : Int) (w : World) (h : Rdr w g rest err) : Calls Try.prog 31 #[.pointer (some ⟨g, 0, none⟩)] w fun e w' => e = .returned (.int .i64 err) ∧ w = w' := by
  have h1 := h.c1
  clear h
  go_enter Try.func31, Try.ntmps31
  go_wp2
  go_ret
  exact ⟨rfl, rfl⟩
theorem Err_nil (w : World) : Calls Try.prog 31 #[.pointer none] w fun e w' => e = .returned (.int .i64 1) ∧ w = w' := by
  go_enter Try.func31, Try.ntmps31
  go_wp2
  go_ret
  exact ⟨rfl, rfl⟩
theorem Left_any (g : Nat) (rest : ByteArray) (err : Int) (w : World) (h : Rdr w g rest err) : Calls Try.prog 32 #[.pointer (some ⟨g, 0, none⟩)] w fun e w' => e = .returned (.int .i64 rest.size) ∧ w = w' := by
  have h1 := h.c0
  clear h
  go_enter Try.func32, Try.ntmps32
  go_wp2
  go_ret
  exact ⟨rfl, rfl⟩
theorem Left_nil (w : World) : Calls Try.prog 32 #[.pointer none] w fun e w' => e = .returned (.int .i64 0) ∧ w = w' := by
  go_enter Try.func32, Try.ntmps32
  go_wp2
  go_ret
  exact ⟨rfl, rfl⟩
/-- a reader has turned, and nothing else -/
def Turned (w : World) (g : Nat) (r : Value) (rest : ByteArray) (err : Int) (e : Ending) (w' : World) : Prop :=
  e = .returned r ∧ Rdr w' g rest err ∧ w.grownBy w' (some g)
theorem fail_any (g : Nat) (rest : ByteArray) (err k : Int) (w : World) (h : Rdr w g rest err) : Calls Try.prog 37 #[.pointer (some ⟨g, 0, none⟩), .int .i64 k] w (Turned w g (.tuple #[]) ⟨#[]⟩ k) := by
  have h0 := h.c0
  have h1 := h.c1
  have f0 := h.fz 0
  have f1 := h.fz 1
  have H := Lib.hid h
  clear h
  go_enter Try.func37, Try.ntmps37
  go_wp2
  go_end0
  exact ⟨rfl, (H.out.set0 _).set1 _, grown_set2 (grown_set _ _ _ _) _ _⟩

end Go.Proofs.Ytanbbomdidefjaa
