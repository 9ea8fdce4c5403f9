/- What turns and what stays; the contract of a volume's write. -/
import Derived.Test.YtpljmoiemmaecaaDa
import Derived.Deep.RegionHeld3
import Derived.Laws.Pointers
namespace Go.Proofs.Ytpljmoiemmaecaa
open Go.RowKit

/-- only the blocks of S, and new ones, have turned -/
structure Fr (S : Nat → Prop) (w w' : World) : Prop where
  os : w'.os = w.os
  tape : w'.tape = w.tape
  output : w'.output = w.output
  size : w.heap.size ≤ w'.heap.size
  block : ∀ k, k < w.heap.size → ¬ S k → w'.heap[k]? = w.heap[k]?
theorem Fr.refl (S : Nat → Prop) (w : World) : Fr S w w := ⟨rfl, rfl, rfl, Nat.le_refl _, fun _ _ _ => rfl⟩
theorem Fr.trans {S : Nat → Prop} {a b c : World} (h : Fr S a b) (k : Fr S b c) : Fr S a c :=
  ⟨k.os.trans h.os, k.tape.trans h.tape, k.output.trans h.output, Nat.le_trans h.size k.size, fun i hi hn => (k.block i (Nat.lt_of_lt_of_le hi h.size) hn).trans (h.block i hi hn)⟩
/-- new blocks may turn, too -/
theorem Fr.then {S T : Nat → Prop} {a b c : World} (h : Fr S a b) (k : Fr T b c) (hT : ∀ i, T i → S i ∨ a.heap.size ≤ i) : Fr S a c :=
  ⟨k.os.trans h.os, k.tape.trans h.tape, k.output.trans h.output, Nat.le_trans h.size k.size, fun i hi hn => (k.block i (Nat.lt_of_lt_of_le hi h.size) (fun ht => by
    rcases hT i ht with h' | h'
    · exact hn h'
    · omega)).trans (h.block i hi hn)⟩
theorem Fr.mono {S T : Nat → Prop} {a b : World} (h : Fr S a b) (hT : ∀ i, S i → T i ∨ a.heap.size ≤ i) : Fr T a b :=
  ⟨h.os, h.tape, h.output, h.size, fun i hi hn => h.block i hi (fun hs => by
    rcases hT i hs with h' | h'
    · exact hn h'
    · omega)⟩
theorem Fr.grown {a b : World} {row : Option Nat} (h : a.grownBy b row) : Fr (fun k => row = some k) a b := ⟨h.os, h.tape, h.output, h.size, fun k hk hn => h.block k hk (fun e => hn e.symm)⟩
theorem Fr.alloc (w : World) (o : Obj) (S : Nat → Prop) : Fr S w (w.alloc o) := ⟨rfl, rfl, rfl, by simp, fun k hk _ => Below.heap_alloc w o k hk⟩
theorem Fr.drew (w : World) (S : Nat → Prop) : Fr S w w.drew := ⟨rfl, rfl, rfl, Nat.le_refl _, fun _ _ _ => rfl⟩
theorem Fr.drewN (w : World) (n : Nat) (S : Nat → Prop) : Fr S w (w.drewN n) := ⟨rfl, rfl, rfl, Nat.le_refl _, fun _ _ _ => rfl⟩
theorem Fr.set (w : World) (g i : Nat) (v : Value) : Fr (fun k => k = g) w (w.setCell ⟨g, i, none⟩ v) :=
  ⟨rfl, rfl, rfl, by simp [World.setCell], fun k _ hk => Below.heap_setCell w ⟨g, i, none⟩ v k hk⟩
theorem Fr.below {S : Nat → Prop} {a b : World} {B : Nat} (h : Fr S a b) (hS : ∀ k, S k → B ≤ k) (hB : B ≤ a.heap.size) : Below B a b :=
  ⟨h.os, h.tape, h.output, h.size, fun k hk => h.block k (by omega) (fun hs => by have := hS k hs; omega)⟩

/-- a block of cells, known whole -/
def Cel (w : World) (g : Nat) (t : TypeId) (C : Array Value) : Prop := w.heap[g]? = some (.cells C t (0, 0))
section
variable {w w' : World} {g : Nat} {t : TypeId} {C : Array Value}
theorem Cel.lt (h : Cel w g t C) : g < w.heap.size := (Array.getElem?_eq_some_iff.1 h).1
theorem Cel.cell (h : Cel w g t C) (i : Nat) : w.cell? ⟨g, i, none⟩ = C[i]? := by
  have h' : w.heap[g]? = _ := h
  simp [World.cell?, h']
theorem Cel.fz (h : Cel w g t C) (i : Nat) : w.frozen? ⟨g, i, none⟩ = false := by
  have h' : w.heap[g]? = _ := h
  simp [World.frozen?, h']
theorem Cel.set (h : Cel w g t C) (i : Nat) (v : Value) : Cel (w.setCell ⟨g, i, none⟩ v) g t (C.setIfInBounds i v) := by
  have h' : w.heap[g]? = _ := h
  unfold Cel
  simp [World.setCell, Array.getElem?_modify, h']
theorem Cel.of (h : Cel w g t C) (hb : w'.heap[g]? = w.heap[g]?) : Cel w' g t C := hb.trans h
theorem Cel.ne_map (h : Cel w g t C) {b n : Nat} {V : ByteArray → Option Value} (hM : MapV w b n V) : g ≠ b := by
  rintro rfl
  obtain ⟨D, ⟨es, cl, h1, _⟩, _⟩ := hM
  have h' : w.heap[g]? = _ := h
  rw [h'] at h1
  cases h1
theorem Cel.ne_rd (h : Cel w g t C) {v : Value} {l : List Int} (hv : RdB w v l) (ht : t ≠ 5) : v.ownBlock ≠ some g := by
  rcases hv with ⟨rfl, _⟩ | ⟨g', cap, cur, rfl, hg, _⟩
  · simp [nilS, Value.ownBlock]
  · intro e
    obtain rfl : g' = g := by injection e
    have h' : w.heap[g']? = _ := h
    rw [h'] at hg
    injection hg with hg
    injection hg with _ hg
    exact ht hg
end
theorem map_ne_rd {w : World} {b n : Nat} {V : ByteArray → Option Value} (hM : MapV w b n V) {v : Value} {l : List Int} (hv : RdB w v l) : v.ownBlock ≠ some b := by
  rcases hv with ⟨rfl, _⟩ | ⟨g', cap, cur, rfl, hg, _⟩
  · simp [nilS, Value.ownBlock]
  · intro e
    cases e
    obtain ⟨D, ⟨es, cl, h1, _⟩, _⟩ := hM
    rw [hg] at h1
    cases h1

/-- a volume's files: none yet, or a map -/
def Files (w : World) (m : Option Nat) (n : Nat) (V : ByteArray → Option Value) : Prop :=
  (m = none ∧ V = fun _ => none) ∨ ∃ b, m = some b ∧ MapV w b n V

/-- what a write leaves: of the volume at o in block d -/
def Wrote (w : World) (d o : Nat) (T : TypeId) (C : Array Value) (m : Option Nat) (n : Nat) (V : ByteArray → Option Value) (s : ByteArray) (l data : List Int) (used : Int) (e : Ending) (w' : World) : Prop :=
  e = .returned (.tuple #[]) ∧ ∃ b v', Cel w' d T ((C.setIfInBounds o (.map (some b))).setIfInBounds (o + 1) (.int .i64 (used + data.length))) ∧ MapV w' b (n + 1) (fun t => if t = s then some v' else V t) ∧ (m = some b ∨ m = none ∧ w.heap.size ≤ b) ∧
    RdB w' v' (l ++ data) ∧ AppAt w.heap.size ((V s).getD nilS) l data v' ∧
    (∀ t lt, RdB w t lt → (t.ownBlock = ((V s).getD nilS).ownBlock → Spare ((V s).getD nilS) l → lt.length ≤ l.length) → RdB w' t lt) ∧ Fr (fun k => k = d ∨ m = some k ∨ ((V s).getD nilS).ownBlock = some k) w w'

theorem map_nil_no (w : World) (b : Nat) : Sem.run Try.prog (binOp .eql 56 (.map (some b)) (.map none)) w = .ok (.bool false) w := by kernel_rfl
theorem map_nil_yes (w : World) : Sem.run Try.prog (binOp .eql 56 (.map none) (.map none)) w = .ok (.bool true) w := by kernel_rfl

theorem set_self {C : Array Value} {i : Nat} {v : Value} (h : C[i]? = some v) : C.setIfInBounds i v = C := by
  obtain ⟨hi, hv⟩ := Array.getElem?_eq_some_iff.1 h
  apply Array.ext
  · simp
  · intro j h1 h2
    rw [Array.getElem_setIfInBounds]
    split
    · rename_i e; subst e; exact hv.symm
    · rfl
theorem wrote_mk {w w4 w5 : World} {d o : Nat} {T : TypeId} {C : Array Value} {b n : Nat} {V : ByteArray → Option Value} {s : ByteArray} {l data : List Int} {used : Int} {v v4 : Value}
    (hC : Cel w d T C) (hT : T ≠ 5) (c0 : C[o]? = some (.map (some b))) (hM : MapV w b n V) (hvs : (V s).getD nilS = v) (hv : RdB w v l) (hA4 : Apd w.drew v l data v4 w4) (hd4 : w4.heap[d]? = w.heap[d]?) (hb4 : w4.heap[b]? = w.heap[b]?)
    (hM5 : MapV w5 b (n + 1) (fun t => if t = s then some v4 else V t)) (hg5 : w4.grownBy w5 (some b)) :
    Wrote w d o T C (some b) n V s l data used (.returned (.tuple #[])) (w5.setCell ⟨d, o + 1, none⟩ (.int .i64 (used + data.length))) := by
  have hdl := hC.lt
  have hbl := hM.lt
  have hdb : d ≠ b := hC.ne_map hM
  have hnd : v.ownBlock ≠ some d := hC.ne_rd hv hT
  have hnb : v.ownBlock ≠ some b := map_ne_rd hM hv
  have hs4 := hA4.grown.size
  have hs4' : w.heap.size ≤ w4.heap.size := hs4
  have hd5 : w5.heap[d]? = w.heap[d]? := (hg5.block d (by omega) (fun e => hdb (by injection e))).trans hd4
  have hC5 := hC.of hd5
  have hup : ∀ t lt, RdB w4 t lt → RdB (w5.setCell ⟨d, o + 1, none⟩ (.int .i64 (used + data.length))) t lt := by
    intro t lt h
    have h1 : t.ownBlock ≠ some b := map_ne_rd (hM.ofBlock hb4) h
    have h2 : t.ownBlock ≠ some d := (hC.of hd4).ne_rd h hT
    have h3 := h.far hg5 (fun g e e' => h1 (by rw [e]; exact e'.symm ▸ rfl))
    exact h3.ofBlock (fun g e => Below.heap_setCell w5 ⟨d, o + 1, none⟩ _ g (fun e' => h2 (by rw [e, e'])))
  refine ⟨rfl, b, v4, ?_, hM5.ofBlock (Below.heap_setCell w5 ⟨d, o + 1, none⟩ _ b (fun e => hdb e.symm)), .inl rfl, hup _ _ hA4.rd, ?_, ?_, ?_⟩
  · rw [set_self c0]
    exact hC5.set (o + 1) _
  · rw [hvs]
    exact hA4.at_
  · intro t lt h hle
    rw [hvs] at hle
    exact hup t lt (hA4.stay t lt (h.ofBlock (fun _ _ => rfl)) hle)
  · rw [hvs]
    have f1 : Fr (fun k => k = d ∨ some b = some k ∨ v.ownBlock = some k) w w4 := ((Fr.drew w _).trans (Fr.grown hA4.grown)).mono (fun i h => .inl (.inr (.inr h)))
    have f2 : Fr (fun k => k = d ∨ some b = some k ∨ v.ownBlock = some k) w4 w5 := (Fr.grown hg5).mono (fun i h => .inl (.inr (.inl h)))
    have f3 : Fr (fun k => k = d ∨ some b = some k ∨ v.ownBlock = some k) w5 (w5.setCell ⟨d, o + 1, none⟩ (.int .i64 (used + data.length))) := (Fr.set w5 d (o + 1) _).mono (fun i h => .inl (.inl h))
    exact (f1.trans f2).trans f3

set_option maxRecDepth 100000 in
set_option maxHeartbeats 1000000 in
theorem vwrite_some (w : World) (d o : Nat) (T : TypeId) (C : Array Value) (b n : Nat) (V : ByteArray → Option Value) (s : ByteArray) (l data : List Int) (used : Int) (B : Option Addr) (cb : Nat)
    (hC : Cel w d T C) (hT : T ≠ 5) (c0 : C[o]? = some (.map (some b))) (c1 : C[o + 1]? = some (.int .i64 used)) (hM : MapV w b n V) (hs : s.size ≤ maxLen) (hn : n < 1000000) (hv : RdB w ((V s).getD nilS) l) (hd : Rd w .u8 B data) (hB : B = none → cb = 0)
    (hl : l.length + data.length ≤ 100000000) (hu : 0 ≤ used ∧ used ≤ 1000000000000) :
    Calls Try.prog 45 #[.pointer (some ⟨d, o, none⟩), .string s, .slice B data.length cb] w (Wrote w d o T C (some b) n V s l data used) := by
  have h0 := (hC.cell o).trans c0
  have f0 := hC.fz o
  have hlk := hM.look0 s hs
  obtain ⟨v, hvv⟩ : ∃ v, (V s).getD nilS = v := ⟨_, rfl⟩
  rw [hvv] at hv hlk
  have HV := Lib.hid hvv
  have hnd : v.ownBlock ≠ some d := hC.ne_rd hv hT
  have hnb : v.ownBlock ≠ some b := map_ne_rd hM hv
  have hdb : d ≠ b := hC.ne_map hM
  have hdl := hC.lt
  have hbl := hM.lt
  have hlk2 : (Instr.lookup 56 (.map (some b)) (.string s) false).run Try.prog w.drew = .ok v w.drew := by
    have := (hM.ofBlock (w' := w.drew) rfl).look0 s hs
    rw [hvv] at this
    exact this
  have q1 := fun W => map_nil_no W b
  have HC0 := Lib.hid c0
  have HC1 := Lib.hid c1
  clear hvv c0 c1
  go_enter Try.func45, Try.ntmps45
  go_wp2_with fail
  go_region_held3 (fun w' => w'.cell? ⟨d, o, none⟩ = some (.map (some b)))
    (first | go_keep | exact h04 | exact h05)
    (first
      | (refine step_append_rb (by rfl) _ _ (by rfl) v l data B data.length cb rfl (by rfl) (by rfl) (hv.ofBlock (fun _ _ => rfl)) (hd.keep (Nat.le_refl _) (fun _ _ => rfl)) hB hl ?_; intro v4 w4 hA4; have hd4 : w4.heap[d]? = w.heap[d]? := hA4.grown.block d hdl (fun e => hnd e.symm); have hb4 : w4.heap[b]? = w.heap[b]? := hA4.grown.block b hbl (fun e => hnb e.symm); have h04 : w4.cell? ⟨d, o, none⟩ = some (.map (some b)) := ((hC.of hd4).cell o).trans HC0.out; obtain ⟨w5, hrun5, hM5, hg5⟩ := (hM.ofBlock hb4).set s hs (by unfold maxLen; omega) v4 hA4.rd.isS; have hd5 : w5.heap[d]? = w.heap[d]? := (hg5.block d (Nat.lt_of_lt_of_le hdl hA4.grown.size) (fun e => hdb (by injection e))).trans hd4; have hC5 := hC.of hd5; have h05 : w5.cell? ⟨d, o, none⟩ = some (.map (some b)) := (hC5.cell o).trans HC0.out; have h15 : w5.cell? ⟨d, o + 1, none⟩ = some (.int .i64 used) := (hC5.cell (o + 1)).trans HC1.out; have f15 := hC5.fz (o + 1)))
  go_wp2
  go_end0
  have hvs : (V s).getD nilS = v := HV.out
  exact wrote_mk hC hT HC0.out hM hvs hv hA4 hd4 hb4 hM5 hg5

end Go.Proofs.Ytpljmoiemmaecaa
