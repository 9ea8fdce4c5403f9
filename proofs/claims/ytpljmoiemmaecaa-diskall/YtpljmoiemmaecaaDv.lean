/- Contracts of a volume's has, write, move, drop. -/
import Derived.Test.YtpljmoiemmaecaaDw
import Derived.Deep.QuietTactic
import Derived.BigQuiet
import Derived.Deep.DeepCutAuto
namespace Go.Proofs.Ytpljmoiemmaecaa
open Go.RowKit

theorem look_none (w : World) (s : ByteArray) (hs : s.size ≤ maxLen) : (Instr.lookup 56 (.map none) (.string s) false).run Try.prog w = .ok nilS w := look_nil0 w s hs

theorem Files.look {w : World} {m : Option Nat} {n : Nat} {V : ByteArray → Option Value} (h : Files w m n V) (s : ByteArray) (hs : s.size ≤ maxLen) (W : World) (hW : ∀ b, m = some b → W.heap[b]? = w.heap[b]?) :
    (Instr.lookup 56 (.map m) (.string s) false).run Try.prog W = .ok ((V s).getD nilS) W := by
  rcases h with ⟨rfl, rfl⟩ | ⟨b, rfl, h⟩
  · exact look_nil0 W s hs
  · exact (h.ofBlock (hW b rfl)).look0 s hs
theorem Files.lookOk {w : World} {m : Option Nat} {n : Nat} {V : ByteArray → Option Value} (h : Files w m n V) (s : ByteArray) (hs : s.size ≤ maxLen) (W : World) (hW : ∀ b, m = some b → W.heap[b]? = w.heap[b]?) :
    (Instr.lookup 56 (.map m) (.string s) true).run Try.prog W = .ok (.tuple #[(V s).getD nilS, .bool (V s).isSome]) W := by
  rcases h with ⟨rfl, rfl⟩ | ⟨b, rfl, h⟩
  · exact look_nil1 W s hs
  · exact (h.ofBlock (hW b rfl)).look s hs
theorem Files.ofBlock {w w' : World} {m : Option Nat} {n : Nat} {V : ByteArray → Option Value} (h : Files w m n V) (hW : ∀ b, m = some b → w'.heap[b]? = w.heap[b]?) : Files w' m n V := by
  rcases h with h | ⟨b, rfl, h⟩
  · exact .inl h
  · exact .inr ⟨b, rfl, h.ofBlock (hW b rfl)⟩

theorem has_any (w : World) (d o : Nat) (T : TypeId) (C : Array Value) (m : Option Nat) (n : Nat) (V : ByteArray → Option Value) (s : ByteArray) (hC : Cel w d T C) (c0 : C[o]? = some (.map m)) (hF : Files w m n V) (hs : s.size ≤ maxLen) :
    Calls Try.prog 32 #[.pointer (some ⟨d, o, none⟩), .string s] w fun e w' => e = .returned (.bool (V s).isSome) ∧ w = w' := by
  have h0 := (hC.cell o).trans c0
  have hl := hF.lookOk s hs w (fun _ _ => rfl)
  clear hF c0
  go_enter Try.func32, Try.ntmps32
  go_wp2
  go_ret
  exact ⟨rfl, rfl⟩

theorem make_map (w : World) : (Instr.makeMap 56 none).run Try.prog w = .ok (.map (some w.heap.size)) (w.alloc (.map #[] 0)) := by
  simp [Instr.makeMap]
theorem MapV.mono {w : World} {b n n' : Nat} {V : ByteArray → Option Value} (h : MapV w b n V) (hn : n ≤ n') : MapV w b n' V := by
  obtain ⟨D, h1, h2⟩ := h
  exact ⟨D, h1.mono hn, h2⟩

set_option maxRecDepth 100000 in
set_option maxHeartbeats 1000000 in
theorem vwrite_none (w : World) (d o : Nat) (T : TypeId) (C : Array Value) (s : ByteArray) (data : List Int) (used : Int) (B : Option Addr) (cb n : Nat)
    (hC0 : Cel w d T C) (hT : T ≠ 5) (c00 : C[o]? = some (.map none)) (c1 : C[o + 1]? = some (.int .i64 used)) (hs : s.size ≤ maxLen) (hd : RdB w (.slice B data.length cb) data)
    (hl : data.length ≤ 100000000) (hu : 0 ≤ used ∧ used ≤ 1000000000000) (hn : n < 1000000) :
    Calls Try.prog 45 #[.pointer (some ⟨d, o, none⟩), .string s, .slice B data.length cb] w (Wrote w d o T C none n (fun _ => none) s [] data used) := by
  have h00 := (hC0.cell o).trans c00
  have f00 := hC0.fz o
  have q0 := fun W => map_nil_yes W
  have hdl0 := hC0.lt
  have qm := make_map w
  obtain ⟨w0, hw0⟩ : ∃ w0, (w.setCell ⟨d, o, none⟩ (.map (some w.heap.size))).alloc (.map #[] 0) = w0 := ⟨_, rfl⟩
  have hoC : o < C.size := (Array.getElem?_eq_some_iff.1 c00).1
  have hsz : (w.setCell ⟨d, o, none⟩ (.map (some w.heap.size))).heap.size = w.heap.size := by simp [World.setCell]
  have hC : Cel w0 d T (C.setIfInBounds o (.map (some w.heap.size))) := by rw [← hw0]; exact (hC0.set o _).of (Below.heap_alloc _ _ d (by omega))
  have hM : MapV w0 w.heap.size n (fun _ => none) := by
    have := MapV.new (w.setCell ⟨d, o, none⟩ (.map (some w.heap.size)))
    rw [hsz, hw0] at this
    exact this.mono (Nat.zero_le _)
  have c0 : (C.setIfInBounds o (.map (some w.heap.size)))[o]? = some (.map (some w.heap.size)) := by simp [hoC]
  have c1' : (C.setIfInBounds o (.map (some w.heap.size)))[o + 1]? = some (.int .i64 used) := by rw [Array.getElem?_setIfInBounds]; simp [c1]
  have hf0 : Fr (fun k => k = d) w w0 := by rw [← hw0]; exact (Fr.set _ d o _).trans (Fr.alloc _ _ _)
  have hst : ∀ t lt, RdB w t lt → RdB w0 t lt := fun t lt h => h.ofBlock (fun g e => hf0.block g (h.lt e) (fun e' => hC0.ne_rd h hT (by rw [e, e'])))
  obtain ⟨B', cb', hBe, hB, _, hd0⟩ := (hst _ _ hd).form
  obtain ⟨rfl, rfl⟩ : B = B' ∧ cb = cb' := by injection hBe with h1 _ h2; exact ⟨h1, h2⟩
  have h0 := (hC.cell o).trans c0
  have hlk2 := (hM.ofBlock (w' := w0.drew) rfl).look0 s hs
  have hdl := hC.lt
  have hbl := hM.lt
  have hdb : d ≠ w.heap.size := by omega
  have HC0 := Lib.hid c0
  have HC1 := Lib.hid c1'
  have HW := Lib.hid hw0
  clear c00 c1 c0 c1' hw0
  go_enter Try.func45, Try.ntmps45
  go_upto_region 2 with fail
  rw [HW.out]
  obtain ⟨b, hbb⟩ : ∃ b, w.heap.size = b := ⟨_, rfl⟩
  rw [hbb] at hC hM h0 hlk2 hbl hdb HC0 HC1
  rw [hbb]
  have HBB := Lib.hid hbb
  clear HW qm hbb q0
  have hnn : RdB w0.drew nilS [] := RdB.nil
  go_region_held3 (fun w' => w'.cell? ⟨d, o, none⟩ = some (.map (some b)))
    (first | go_keep | exact h04 | exact h05)
    (first
      | (refine step_append_rb (by rfl) _ _ (by rfl) nilS [] data B data.length cb rfl (by rfl) (by rfl) hnn (hd0.keep (Nat.le_refl _) (fun _ _ => rfl)) hB (by simpa using hl) ?_; intro v4 w4 hA4; have hd4 : w4.heap[d]? = w0.heap[d]? := hA4.grown.block d hdl (fun e => by cases e); have hb4 : w4.heap[b]? = w0.heap[b]? := hA4.grown.block b hbl (fun e => by cases e); have h04 : w4.cell? ⟨d, o, none⟩ = some (.map (some b)) := ((hC.of hd4).cell o).trans HC0.out; obtain ⟨w5, hrun5, hM5, hg5⟩ := (hM.ofBlock hb4).set s hs (by unfold maxLen; omega) v4 hA4.rd.isS; have hd5 : w5.heap[d]? = w0.heap[d]? := (hg5.block d (Nat.lt_of_lt_of_le hdl hA4.grown.size) (fun e => hdb (by injection e))).trans hd4; have hC5 := hC.of hd5; have h05 : w5.cell? ⟨d, o, none⟩ = some (.map (some b)) := (hC5.cell o).trans HC0.out; have h15 : w5.cell? ⟨d, o + 1, none⟩ = some (.int .i64 used) := (hC5.cell (o + 1)).trans HC1.out; have f15 := hC5.fz (o + 1)))
  go_wp2
  go_end0
  obtain ⟨_, b', v', h1, h2, h3, h4, h5, h6, h7⟩ := wrote_mk (used := used) hC hT HC0.out hM rfl (RdB.nil (w := w0)) hA4 hd4 hb4 hM5 hg5
  refine ⟨rfl, b', v', ?_, h2, .inr ⟨rfl, ?_⟩, h4, ?_, fun t lt h hle => h6 t lt (hst t lt h) hle, ?_⟩
  · rcases h3 with h3 | ⟨h3, _⟩
    · cases h3
      simpa using h1
    · cases h3
  · rcases h3 with h3 | ⟨h3, _⟩
    · cases h3
      exact Nat.le_of_eq HBB.out
    · cases h3
  · exact h5.mono hf0.size
  · refine (hf0.mono (fun i h => .inl (.inl h))).then h7 (fun i h => ?_)
    rcases h with h | h | h
    · exact .inl (.inl h)
    · cases h
      exact .inr (Nat.le_of_eq HBB.out)
    · cases h

end Go.Proofs.Ytpljmoiemmaecaa
