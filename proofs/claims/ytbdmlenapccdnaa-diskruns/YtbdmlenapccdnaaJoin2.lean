/- The contract of settle, whatever apply does. A disk in memory; a write as a change. The contract of a disk's Write that is done. A move and a drop as changes. The contracts of a disk's Move, Drop, Read that are done. -/
import Derived.Test.YtbdmlenapccdnaaJoin1
namespace Go.Proofs.Ytbdmlenapccdnaa
open Go.RowKit

theorem zeroChg (w : World) : (zeroValue 82).run Try.prog w = .ok (.agg #[.int .i64 0, .string ⟨#[]⟩, .string ⟨#[]⟩, .slice none 0 0]) w := by kernel_rfl
theorem zero_one : ∀ n, ∀ u ∈ (Builtin.zeroCells (Value.agg #[.int .i64 0, .string ⟨#[]⟩, .string ⟨#[]⟩, .slice none 0 0]).cells n).toList, u.oneCell' = true := by
  intro n u hu
  simp only [Builtin.zeroCells, Array.toList_map, List.mem_map] at hu
  obtain ⟨i, _, rfl⟩ := hu
  have h4 : i % 4 < 4 := Nat.mod_lt _ (by decide)
  rcases (show i % 4 = 0 ∨ i % 4 = 1 ∨ i % 4 = 2 ∨ i % 4 = 3 by omega) with h | h | h | h <;> simp [Value.cells, h, Value.oneCell']
theorem run_clear_chg {w : World} {B n : Nat} {v : Value} {xs : List Value} (h : w.ownsRow B 82 4 v n xs) (ty : TypeId) :
    ∃ w', (Builtin.clear_ #[73] ty #[v]).run Try.prog w = .ok (.tuple #[]) w' ∧ w.grownBy w' v.ownBlock ∧ ∀ A cap, v = .slice A n cap → w'.ownsRow B 82 4 (.slice A 0 cap) 0 [] := by
  rcases h.2 with ⟨rfl, rfl⟩ | ⟨g, cap, cur, rfl, hb, hg, hnc, hcm, hcs, _⟩
  · refine ⟨w, by simp [Builtin.clear_, run_underlying Try.underlying73], ⟨rfl, rfl, rfl, Nat.le_refl _, fun _ _ _ => rfl⟩, fun A cap e => ?_⟩
    injection e with e1 _ e2
    subst e1
    subst e2
    exact World.ownsRow_nil w B 82 4
  · by_cases h0 : n = 0
    · subst h0
      refine ⟨w, by simp [Builtin.clear_, run_underlying Try.underlying73], ⟨rfl, rfl, rfl, Nat.le_refl _, fun _ _ _ => rfl⟩, fun A cap' e => ?_⟩
      injection e with e1 _ e2
      subst e1
      subst e2
      exact ⟨rfl, .inr ⟨g, cap, cur, rfl, hb, hg, Nat.zero_le _, hcm, hcs, by simp⟩⟩
    · obtain ⟨ZL, hZL⟩ : ∃ ZL, (Builtin.zeroCells (Value.agg #[.int .i64 0, .string ⟨#[]⟩, .string ⟨#[]⟩, .slice none 0 0]).cells n).toList = ZL := ⟨_, rfl⟩
      have hzl : ZL.length = n * 4 := by rw [← hZL]; simp [size_zeroCells, Value.cells]
      have hst := run_storeCells_at Try.prog g 0 82 ZL 0 cur w hg (by omega) (by rw [← hZL]; exact zero_one n)
      obtain ⟨W, hW⟩ : ∃ W, w.setRow g (cur.toList.take (0 + 0) ++ ZL ++ cur.toList.drop (0 + 0 + ZL.length)).toArray = W := ⟨_, rfl⟩
      rw [hW] at hst
      have hheap := setRow_heap w g cur (cur.toList.take (0 + 0) ++ ZL ++ cur.toList.drop (0 + 0 + ZL.length)).toArray 82 (0, 0) hg
      rw [hW] at hheap
      refine ⟨W, ?_, ⟨by rw [← hW]; rfl, by rw [← hW]; rfl, by rw [← hW]; rfl, by rw [← hW]; simp, fun k _ hk => by rw [← hW]; exact setRow_other w g k _ (fun e => hk (by simp [Value.ownBlock, e]))⟩, fun A cap' e => ?_⟩
      · obtain ⟨n', rfl⟩ : ∃ n', n = n' + 1 := ⟨n - 1, by omega⟩
        have hzv : ∀ w, (zeroValue 82).run Try.prog w = .ok (.agg #[.int .i64 0, .string ⟨#[]⟩, .string ⟨#[]⟩, .slice none 0 0]) w := zeroChg
        simp [Builtin.clear_, run_underlying Try.underlying73, hzv, hZL, hst]
      · injection e with e1 _ e2
        subst e1
        subst e2
        exact ⟨rfl, .inr ⟨g, cap, _, rfl, hb, hheap, Nat.zero_le _, hcm, by simp; omega, by simp⟩⟩

/-- a change as it lies in memory -/
structure Ch where
  k : Int
  s : ByteArray
  t : ByteArray
  A : Option Addr
  n : Nat
  c : Nat
def Ch.cells (c : Ch) : List Value := chgCells c.k c.s c.t (.slice c.A c.n c.c)
def Ch.val (c : Ch) : Value := chg c.k c.s c.t (.slice c.A c.n c.c)
theorem flat_at : ∀ (cs : List Ch) (i : Nat) (c : Ch) (j : Nat), cs[i]? = some c → j < 4 → (cs.flatMap Ch.cells)[i * 4 + j]? = c.cells[j]?
  | [], i, c, j, h, _ => by simp at h
  | x :: cs, 0, c, j, h, hj => by
    simp at h
    subst h
    rw [List.flatMap_cons, Nat.zero_mul, Nat.zero_add, List.getElem?_append_left (by simpa [Ch.cells, chgCells] using hj)]
  | x :: cs, i + 1, c, j, h, hj => by
    have ih := flat_at cs i c j (by simpa using h) hj
    rw [List.flatMap_cons, List.getElem?_append_right (by simp [Ch.cells, chgCells]; omega), ← ih]
    congr 1
    simp [Ch.cells, chgCells]
    omega

set_option maxRecDepth 100000 in
set_option maxHeartbeats 1000000 in
theorem settle_some (w : World) (d B p cap keep : Nat) (cs : List Ch) (I : Nat → World → Prop) (mn : Option Nat) (un room fuse steps : Int) (off : Bool) (hk : keep ≤ cs.length) (hcap : cs.length ≤ cap) (hcm : cap ≤ maxLen)
    (hI : ∀ i W, I i W → ∃ ms us, Cel W d 75 (dc mn un ms us (.slice (some ⟨p, 0, none⟩) cs.length cap) room fuse steps off) ∧ W.ownsRow B 82 4 (.slice (some ⟨p, 0, none⟩) cs.length cap) cs.length (cs.flatMap Ch.cells))
    (hst : ∀ i W W', I i W → Fr (fun _ => False) W W' → I i W')
    (hap : ∀ i c W W0, i < keep → cs[i]? = some c → I i W0 → Fr (fun _ => False) W0 W → Calls Try.prog 54 #[.pointer (some ⟨d, 2, none⟩), c.val] W fun e W' => e = .returned (.tuple #[]) ∧ I (i + 1) W' ∧ Fr (fun k => k < W0.heap.size) W W')
    (h0 : I 0 w) :
    Calls Try.prog 42 #[.pointer (some ⟨d, 0, none⟩), .int .i64 keep] w fun e w' => e = .returned (.tuple #[]) ∧ ∃ w2 ms us, I keep w2 ∧ Cel w2 d 75 (dc mn un ms us (.slice (some ⟨p, 0, none⟩) cs.length cap) room fuse steps off) ∧ Cel w' d 75 (dc mn un ms us (.slice (some ⟨p, 0, none⟩) 0 cap) room fuse steps off) ∧
      w'.ownsRow B 82 4 (.slice (some ⟨p, 0, none⟩) 0 cap) 0 [] ∧ Fr (fun k => k = d ∨ k = p) w2 w' := by
  have HI := Lib.hid hI
  have HS := Lib.hid hst
  have HA := Lib.hid hap
  obtain ⟨ms0, us0, hD0, hr0⟩ := hI 0 w h0
  have d4 := (hD0.cell 4).trans dc4
  unfold maxLen at hcm
  clear hI hst hap
  go_enter Try.func42, Try.ntmps42
  go_wp2
  go_loopw [13] (fun i wr => ∃ k : Nat, k ≤ keep ∧ i = .int .i64 k ∧ I k wr) (fun i _ => keep - (intOf i).toNat)
  case atStart => exact ⟨0, by omega, rfl, h0⟩
  case round =>
    obtain ⟨i, hi, rfl, hIi⟩ := hrel
    obtain ⟨ms, us, hD, hrow⟩ := HI.out i wr hIi
    clear d4 hD0 hr0
    by_cases hlt : i < keep
    · obtain ⟨c, hc⟩ : ∃ c, cs[i]? = some c := ⟨_, List.getElem?_eq_getElem (by omega)⟩
      have hx : ∀ j, j < 4 → wr.cell? ⟨p, i * 4 + j, none⟩ = c.cells[j]? := fun j hj => by
        rw [hrow.cellAt (i * 4 + j) (by omega), flat_at cs i c j hc hj]
      have x0 := hx 0 (by omega)
      have x1 := hx 1 (by omega)
      have x2 := hx 2 (by omega)
      have x3 := hx 3 (by omega)
      simp [Ch.cells, chgCells] at x0 x1 x2 x3
      clear hx
      obtain ⟨W1, hW1⟩ : ∃ W1, (wr.alloc (.cells #[.int .i64 c.k, .string c.s, .string c.t, .slice c.A c.n c.c] 82)).drew = W1 := ⟨_, rfl⟩
      have hfW : Fr (fun _ => False) wr W1 := by rw [← hW1]; exact (Fr.alloc wr _ _).trans (Fr.drew _ _)
      have hC1 : Cel W1 wr.heap.size 82 #[.int .i64 c.k, .string c.s, .string c.t, .slice c.A c.n c.c] := by rw [← hW1]; exact heap_alloc_new wr _
      have HAP := Lib.hid (HA.out i c W1 wr hlt hc hIi hfW)
      have k0 := hC1.cell 0
      have k1 := hC1.cell 1
      have k2 := hC1.cell 2
      have k3 := hC1.cell 3
      simp at k0 k1 k2 k3
      go_wp2_with fail
      go_region_held3 (fun w' => w'.cell? ⟨wr.heap.size, 0, none⟩ = some (.int .i64 c.k) ∧ w'.cell? ⟨wr.heap.size, 1, none⟩ = some (.string c.s) ∧ w'.cell? ⟨wr.heap.size, 2, none⟩ = some (.string c.t) ∧ w'.cell? ⟨wr.heap.size, 3, none⟩ = some (.slice c.A c.n c.c))
        (first | exact ⟨j0, j1, j2, j3⟩ | go_keep)
        (first | (go_at_call 54; refine HAP.out.mono ?_; rintro e w2 ⟨rfl, hI2, hf2⟩; have hC2 : Cel w2 wr.heap.size 82 #[.int .i64 c.k, .string c.s, .string c.t, .slice c.A c.n c.c] := hC1.of (hf2.block _ hC1.lt (by omega)); have j0 : w2.cell? ⟨wr.heap.size, 0, none⟩ = some (.int .i64 c.k) := hC2.cell 0; have j1 : w2.cell? ⟨wr.heap.size, 1, none⟩ = some (.string c.s) := hC2.cell 1; have j2 : w2.cell? ⟨wr.heap.size, 2, none⟩ = some (.string c.t) := hC2.cell 2; have j3 : w2.cell? ⟨wr.heap.size, 3, none⟩ = some (.slice c.A c.n c.c) := hC2.cell 3))
      go_wp2
      go_roundw
      case rel => exact ⟨i + 1, by omega, by go_num, hI2⟩
      case measure => simp [intOf]; omega
    · obtain rfl : i = keep := by omega
      have g4 := (hD.cell 4).trans dc4
      obtain ⟨w5, hrun5, hg5, hrow5⟩ := run_clear_chg hrow 0
      have hpd : (Value.slice (some ⟨p, 0, none⟩) cs.length cap).ownBlock ≠ some d := row_ne hrow hD (by decide)
      have hD5 := hD.of (hg5.block d hD.lt (fun e => hpd e.symm))
      have g5 := (hD5.cell 4).trans dc4
      have f5 := hD5.fz 4
      have hr5 := hrow5 _ _ rfl
      go_wp2
      go_end0
      refine ⟨rfl, wr, ms, us, hIi, hD, hD5.set 4 _, own_far hr5 (grown_set' w5 d 4 _) (fun g e e' => hpd (by rw [← e'] at e; exact e)), ?_⟩
      exact ((Fr.grown hg5).mono (fun i h => .inl (.inr (by injection h with h; exact h.symm)))).trans ((Fr.set w5 d 4 _).mono (fun i h => .inl (.inl h)))

set_option maxHeartbeats 400000 in
theorem settle_nil (w : World) (d : Nat) (mn ms : Option Nat) (un us room fuse steps : Int) (off : Bool) (hD : Cel w d 75 (dc mn un ms us nilS room fuse steps off)) :
    Calls Try.prog 42 #[.pointer (some ⟨d, 0, none⟩), .int .i64 0] w fun e w' => e = .returned (.tuple #[]) ∧ Cel w' d 75 (dc mn un ms us nilS room fuse steps off) ∧ Fr (fun k => k = d) w w' := by
  have d4 := (hD.cell 4).trans dc4
  have f4 := hD.fz 4
  have hclr : (Builtin.clear_ #[73] 0 #[.slice none 0 0]).run Try.prog w = .ok (.tuple #[]) w := by simp [Builtin.clear_, run_underlying Try.underlying73]
  unfold nilS at d4
  go_enter Try.func42, Try.ntmps42
  go_wp2
  go_loopw [13] (fun i wr => i = .int .i64 0 ∧ wr = w) (fun _ _ => 0)
  case atStart => exact ⟨rfl, rfl⟩
  case round =>
    obtain ⟨rfl, rfl⟩ := hrel
    go_wp2
    go_end0
    exact ⟨rfl, hD.set 4 _, Fr.set wr d 4 _⟩

end Go.Proofs.Ytbdmlenapccdnaa
namespace Go.Proofs.Ytbdmlenapccdnaa
open Go.RowKit

/-- a disk: what its cells, maps, slices are -/
structure Dv where
  S : Fam
  mn : Option Nat
  ms : Option Nat
  nn : Nat
  ns : Nat
  un : Int
  us : Int
  room : Int
  fuse : Int
  steps : Int
  pv : Value
  off : Bool
  cs : List Ch
def Dv.cells (σ : Dv) : Array Value := dc σ.mn σ.un σ.ms σ.us σ.pv σ.room σ.fuse σ.steps σ.off
def vnow (S : Fam) (x : ByteArray) : Option Value := (S (.now x)).map Prod.fst
def vsafe (S : Fam) (x : ByteArray) : Option Value := (S (.safe x)).map Prod.fst

structure DInv (w : World) (d B : Nat) (σ : Dv) : Prop where
  cel : Cel w d 75 σ.cells
  fn : Files w σ.mn σ.nn (vnow σ.S)
  fs : Files w σ.ms σ.ns (vsafe σ.S)
  fam : FamOk w σ.S
  mm : ∀ b, σ.mn = some b → σ.ms ≠ some b
  row : w.ownsRow B 82 4 σ.pv σ.cs.length (σ.cs.flatMap Ch.cells)
  pend : ∀ i c, σ.cs[i]? = some c → ∃ l, σ.S (.pend i) = some (.slice c.A c.n c.c, l) ∧ c.n = l.length
  pend0 : ∀ i, σ.cs.length ≤ i → σ.S (.pend i) = none

theorem RdB.fr {S : Nat → Prop} {w w' : World} {v : Value} {l : List Int} (h : RdB w v l) (hf : Fr S w w') (hne : ∀ g, v.ownBlock = some g → ¬ S g) : RdB w' v l :=
  h.ofBlock (fun g e => hf.block g (h.lt e) (hne g e))
theorem MapV.fr {S : Nat → Prop} {w w' : World} {b n : Nat} {V : ByteArray → Option Value} (h : MapV w b n V) (hf : Fr S w w') (hne : ¬ S b) : MapV w' b n V := h.ofBlock (hf.block b h.lt hne)
theorem Files.fr {S : Nat → Prop} {w w' : World} {m : Option Nat} {n : Nat} {V : ByteArray → Option Value} (h : Files w m n V) (hf : Fr S w w') (hne : ∀ b, m = some b → ¬ S b) : Files w' m n V := by
  rcases h with h | ⟨b, rfl, h⟩
  · exact .inl h
  · exact .inr ⟨b, rfl, h.fr hf (hne b rfl)⟩
theorem Files.lt {w : World} {m : Option Nat} {n : Nat} {V : ByteArray → Option Value} (h : Files w m n V) {b : Nat} (e : m = some b) : b < w.heap.size := by
  rcases h with ⟨h, _⟩ | ⟨b', h, hM⟩
  · rw [h] at e; cases e
  · rw [h] at e; cases e; exact hM.lt
theorem Files.map {w : World} {m : Option Nat} {n : Nat} {V : ByteArray → Option Value} (h : Files w m n V) {b : Nat} (e : m = some b) : MapV w b n V := by
  rcases h with ⟨h, _⟩ | ⟨b', h, hM⟩
  · rw [h] at e; cases e
  · rw [h] at e; cases e; exact hM
theorem DInv.keep {w w' : World} {d B : Nat} {σ : Dv} (h : DInv w d B σ) (hf : Fr (fun _ => False) w w') : DInv w' d B σ :=
  ⟨h.cel.of (hf.block d h.cel.lt (fun h => h)), h.fn.fr hf (fun _ _ h => h), h.fs.fr hf (fun _ _ h => h), h.fam.keep (fun p v l e => (h.fam.rd p v l e).fr hf (fun _ _ h => h)), h.mm, own_fr h.row hf (fun _ _ h => h), h.pend, h.pend0⟩
/-- rows of changes, maps, rows of bytes lie apart -/
theorem row_ne_map {w : World} {B n b m : Nat} {v : Value} {xs : List Value} {V : ByteArray → Option Value} (h : w.ownsRow B 82 4 v n xs) (hM : MapV w b m V) : v.ownBlock ≠ some b := by
  rcases h.2 with ⟨rfl, _⟩ | ⟨g, cap, cur, rfl, _, hh, _⟩
  · simp [Value.ownBlock]
  · intro e
    obtain rfl : g = b := by injection e
    obtain ⟨D, ⟨es, cl, h1, _⟩, _⟩ := hM
    rw [hh] at h1
    cases h1
theorem row_ne_rd {w : World} {B n : Nat} {v u : Value} {xs : List Value} {l : List Int} {g : Nat} (h : w.ownsRow B 82 4 v n xs) (hu : RdB w u l) (e1 : v.ownBlock = some g) (e2 : u.ownBlock = some g) : False := by
  rcases h.2 with ⟨rfl, _⟩ | ⟨g1, cap, cur, rfl, _, hh, _⟩
  · cases e1
  · rcases hu with ⟨rfl, _⟩ | ⟨g2, cap2, cur2, rfl, hg2, _⟩
    · cases e2
    · cases e1
      cases e2
      rw [hh] at hg2
      injection hg2 with hg2
      injection hg2 with _ hg2
      exact absurd hg2 (by decide)

def foot (d : Nat) (σ : Dv) (k : Nat) : Prop := k = d ∨ σ.mn = some k ∨ σ.ms = some k ∨ σ.pv.ownBlock = some k ∨ ∃ p v l, σ.S p = some (v, l) ∧ v.ownBlock = some k
theorem DInv.foot_lt {w : World} {d B : Nat} {σ : Dv} (h : DInv w d B σ) {k : Nat} (hk : foot d σ k) : k < w.heap.size := by
  rcases hk with rfl | hk | hk | hk | ⟨p, v, l, e, hk⟩
  · exact h.cel.lt
  · exact h.fn.lt hk
  · exact h.fs.lt hk
  · exact (h.row.lt k hk).2
  · exact (h.fam.rd p v l e).lt hk

theorem change_write (w : World) (d B : Nat) (σ : Dv) (s t : ByteArray) (A : Option Addr) (cc : Nat) (data l : List Int) (v0 : Value) (h : DInv w d B σ) (hB : B ≤ w.heap.size) (hp : (σ.S (.now s)).getD (nilS, []) = (v0, l)) (hs : s.size ≤ maxLen)
    (hd : RdB w (.slice A data.length cc) data) (hfr : ∀ g, (Value.slice A data.length cc).ownBlock = some g → ¬ foot d σ g) (hl : l.length + data.length ≤ 100000000) (hu : 0 ≤ σ.un ∧ σ.un ≤ 1000000000000) (hn : σ.nn < 1000000) (hc : σ.cs.length ≤ 1000000)
    (code fuse' steps' : Int) (off' : Bool)
    (hst : ∀ w3 pv' mn un, Cel w3 d 75 (dc mn un σ.ms σ.us pv' σ.room σ.fuse σ.steps σ.off) → Calls Try.prog 41 #[.pointer (some ⟨d, 0, none⟩)] w3 fun e w4 => e = .returned (.int .i64 code) ∧ Cel w4 d 75 (dc mn un σ.ms σ.us pv' σ.room fuse' steps' off') ∧ Fr (fun k => k = d) w3 w4) :
    Calls Try.prog 39 #[.pointer (some ⟨d, 0, none⟩), chg 0 s t (.slice A data.length cc)] w fun e w' => e = .returned (.int .i64 code) ∧ ∃ b v' pv',
      DInv w' d B { σ with S := upd (upd σ.S (.now s) (some (v', l ++ data))) (.pend σ.cs.length) (some (.slice A data.length cc, data)), mn := some b, nn := σ.nn + 1, un := σ.un + data.length, pv := pv', cs := σ.cs ++ [⟨0, s, t, A, data.length, cc⟩], fuse := fuse', steps := steps', off := off' } ∧
      Fr (foot d σ) w w' ∧ ∀ k, foot d { σ with S := upd (upd σ.S (.now s) (some (v', l ++ data))) (.pend σ.cs.length) (some (.slice A data.length cc, data)), mn := some b, pv := pv' } k → foot d σ k ∨ (Value.slice A data.length cc).ownBlock = some k ∨ w.heap.size ≤ k := by
  have hv0 : (vnow σ.S s).getD nilS = v0 := by
    unfold vnow
    cases hS : σ.S (.now s) with
    | none => rw [hS] at hp; cases hp; rfl
    | some x => rw [hS] at hp; cases hp; rfl
  have hrd0 : RdB w v0 l := by
    cases hS : σ.S (.now s) with
    | none => rw [hS] at hp; cases hp; exact RdB.nil
    | some x => rw [hS] at hp; cases hp; exact h.fam.rd _ _ _ hS
  have hf0 : ∀ k, (k = d ∨ σ.mn = some k ∨ v0.ownBlock = some k) → foot d σ k := by
    rintro k (hk | hk | hk)
    · exact .inl hk
    · exact .inr (.inl hk)
    · cases hS : σ.S (.now s) with
      | none => rw [hS] at hp; cases hp; cases hk
      | some x => rw [hS] at hp; cases hp; exact .inr (.inr (.inr (.inr ⟨_, _, _, hS, hk⟩)))
  have key := change_gen w d B 0 s t A data.length cc (fun w2 => ∃ w1, Fr (fun _ => False) w w1 ∧ Wrote w1 d 0 75 σ.cells σ.mn σ.nn (vnow σ.S) s l data σ.un (.returned (.tuple #[])) w2) σ.ms (σ.un + data.length) σ.us σ.room σ.fuse σ.steps σ.pv σ.off σ.cs.length (σ.cs.flatMap Ch.cells) ?_ ?_ hc hB code fuse' steps' off' (fun w3 pv' mn => hst w3 pv' mn _)
  · refine key.mono ?_
    rintro e w' ⟨rfl, w2, pv', mn, ⟨w1, hf1, _, b, v', hC2, hM2, hb2, hr2, hat2, hst2, hfr2⟩, hCm, hrow2, hC', hrow', hpv, hf', hsz⟩
    have hmn : mn = some b := by
      have h1 : w2.heap[d]? = _ := hCm
      have h2 : w2.heap[d]? = _ := hC2
      rw [h1] at h2
      injection h2 with h2
      injection h2 with h2
      have := congrArg (fun C : Array Value => C[0]?) h2
      simp [dc, Dv.cells] at this
      exact this
    subst hmn
    rw [hv0] at hat2 hst2 hfr2
    have h1 := h.keep hf1
    -- the family behind apply
    have hfam2 : FamOk w2 (upd σ.S (.now s) (some (v', l ++ data))) := h1.fam.append (.now s) hp hat2 hr2 hst2
    have hlt1 : ∀ k, foot d σ k → k < w1.heap.size := fun k hk => h1.foot_lt hk
    -- blocks of the disk's own at w2
    have hmsb : ∀ b', σ.ms = some b' → b' ≠ b := by
      rintro b' e rfl
      rcases hb2 with hb | ⟨hb, hge⟩
      · exact h.mm _ hb e
      · have := h1.fs.lt e
        omega
    have hfs2 : Files w2 σ.ms σ.ns (vsafe σ.S) := h1.fs.fr hfr2 (fun b' e => by
      rintro (hk | hk | hk)
      · exact h1.cel.ne_map (h1.fs.map e) hk.symm
      · exact h.mm _ hk e
      · exact map_ne_rd (h1.fs.map e) (hrd0.fr hf1 (fun _ _ h => h)) hk)
    have hd1 : RdB w1 (.slice A data.length cc) data := hd.fr hf1 (fun _ _ h => h)
    have hd2 : RdB w2 (.slice A data.length cc) data := hd1.fr hfr2 (fun g e hk => hfr g e (hf0 g hk))
    -- all that is at w2 is at w'
    have hupR : ∀ u k, RdB w2 u k → RdB w' u k := fun u k hu => hu.fr hf' (fun g e => by
      rintro (hk | hk)
      · exact hCm.ne_rd hu (by decide) (by rw [e, hk])
      · exact row_ne_rd hrow2 hu hk e)
    have hupM : ∀ b' n V, MapV w2 b' n V → MapV w' b' n V := fun b' n V hM => hM.fr hf' (by
      rintro (hk | hk)
      · exact hCm.ne_map hM hk.symm
      · exact row_ne_map hrow2 hM hk)
    have hfam' : FamOk w' (upd (upd σ.S (.now s) (some (v', l ++ data))) (.pend σ.cs.length) (some (.slice A data.length cc, data))) := by
      refine (hfam2.keep (fun p u k e => hupR u k (hfam2.rd p u k e))).add (.pend σ.cs.length) (hupR _ _ hd2) ?_
      intro g e q u k hq eq hgu
      by_cases hqs : q = .now s
      · subst hqs
        rw [upd_same] at eq
        cases eq
        rcases hat2.own with ho | ⟨g', ho, hge⟩
        · rw [ho] at hgu
          exact hfr g e (hf0 g (.inr (.inr hgu)))
        · rw [ho] at hgu
          cases hgu
          have := hd1.lt e
          omega
      · rw [upd_other _ _ hqs] at eq
        exact hfr g e (.inr (.inr (.inr (.inr ⟨_, _, _, eq, hgu⟩))))
    refine ⟨rfl, b, v', pv', ⟨hC', .inr ⟨b, rfl, ?_⟩, ?_, hfam', ?_, ?_, ?_, ?_⟩, ?_, ?_⟩
    · have hV : vnow (upd (upd σ.S (.now s) (some (v', l ++ data))) (.pend σ.cs.length) (some (.slice A data.length cc, data))) = fun x => if x = s then some v' else vnow σ.S x := by
        funext x
        unfold vnow
        rw [upd_other _ _ (by simp)]
        by_cases hx : x = s
        · subst hx
          rw [upd_same]
          simp
        · rw [upd_other _ _ (by simpa using hx)]
          simp [hx]
      rw [hV]
      exact hupM _ _ _ hM2
    · have hV : vsafe (upd (upd σ.S (.now s) (some (v', l ++ data))) (.pend σ.cs.length) (some (.slice A data.length cc, data))) = vsafe σ.S := by
        funext x
        unfold vsafe
        rw [upd_other _ _ (by simp), upd_other _ _ (by simp)]
      rw [hV]
      exact hfs2.fr hf' (fun b' e => by
        rintro (hk | hk)
        · exact hCm.ne_map (hfs2.map e) hk.symm
        · exact row_ne_map hrow2 (hfs2.map e) hk)
    · intro b' e e'
      cases e
      exact hmsb b e' rfl
    · simp only [List.length_append, List.length_cons, List.length_nil, List.flatMap_append, List.flatMap_cons, List.flatMap_nil, List.append_nil]
      exact hrow'
    · intro i c hi
      by_cases hic : i = σ.cs.length
      · subst hic
        simp at hi
        subst hi
        exact ⟨data, upd_same _ _ _, rfl⟩
      · rw [List.getElem?_append] at hi
        split at hi
        · obtain ⟨l', e1, e2⟩ := h.pend i c hi
          exact ⟨l', by show upd (upd σ.S (.now s) (some (v', l ++ data))) (.pend σ.cs.length) (some (.slice A data.length cc, data)) (.pend i) = _; rw [upd_other _ _ (by simpa using hic), upd_other _ _ (by simp)]; exact e1, e2⟩
        · exfalso
          have : i - σ.cs.length ≠ 0 := by omega
          rw [List.getElem?_eq_none (by simp; omega)] at hi
          cases hi
    · intro i hi
      simp at hi
      show upd (upd σ.S (.now s) (some (v', l ++ data))) (.pend σ.cs.length) (some (.slice A data.length cc, data)) (.pend i) = _
      rw [upd_other _ _ (by simp; omega), upd_other _ _ (by simp)]
      exact h.pend0 i (by omega)
    · have f12 : Fr (foot d σ) w w2 := (hf1.mono (fun _ h => h.elim)).trans (hfr2.mono (fun i hk => .inl (hf0 i hk)))
      exact f12.trans (hf'.mono (fun i hk => .inl (by
        rcases hk with hk | hk
        · exact .inl hk
        · exact .inr (.inr (.inr (.inl hk))))))
    · rintro k (hk | hk | hk | hk | ⟨p, u, m, e, hk⟩)
      · exact .inl (.inl hk)
      · cases hk
        rcases hb2 with hb | ⟨_, hge⟩
        · exact .inl (.inr (.inl hb))
        · exact .inr (.inr (Nat.le_trans hf1.size hge))
      · exact .inl (.inr (.inr (.inl hk)))
      · rcases hpv with ho | ⟨g, ho, hge⟩
        · exact .inl (.inr (.inr (.inr (.inl (by rw [← ho]; exact hk)))))
        · rw [ho] at hk
          cases hk
          exact .inr (.inr (Nat.le_trans hsz hge))
      · have e : upd (upd σ.S (.now s) (some (v', l ++ data))) (.pend σ.cs.length) (some (.slice A data.length cc, data)) p = some (u, m) := e
        by_cases hpe : p = .pend σ.cs.length
        · subst hpe
          rw [upd_same] at e
          cases e
          exact .inr (.inl hk)
        · rw [upd_other _ _ hpe] at e
          by_cases hps : p = .now s
          · subst hps
            rw [upd_same] at e
            cases e
            rcases hat2.own with ho | ⟨g', ho, hge⟩
            · rw [ho] at hk
              exact .inl (hf0 k (.inr (.inr hk)))
            · rw [ho] at hk
              cases hk
              exact .inr (.inr (Nat.le_trans hf1.size hge))
          · rw [upd_other _ _ hps] at e
            exact .inl (.inr (.inr (.inr (.inr ⟨p, u, m, e, hk⟩))))
  · intro w1 hf1
    have h1 := h.keep hf1
    refine (apply_write w1 d 0 75 σ.cells σ.mn σ.nn (vnow σ.S) s t l data σ.un A cc h1.cel (by decide) rfl rfl h1.fn hs hn (by rw [hv0]; exact hrd0.fr hf1 (fun _ _ h => h)) (hd.fr hf1 (fun _ _ h => h)) hl hu).mono ?_
    intro e w2 hw
    have he : e = .returned (.tuple #[]) := hw.1
    subst he
    refine ⟨rfl, ⟨w1, hf1, hw⟩, ?_⟩
    obtain ⟨_, b, v', _, _, _, _, _, _, hfr2⟩ := hw
    rw [hv0] at hfr2
    exact hfr2.mono (fun i hk => .inl (h.foot_lt (hf0 i hk)))
  · rintro w2 ⟨w1, hf1, _, b, v', hC2, hM2, hb2, hr2, hat2, hst2, hfr2⟩
    have h1 := h.keep hf1
    rw [hv0] at hfr2
    refine ⟨some b, hC2, own_fr h1.row hfr2 (fun g e => ?_)⟩
    rintro (hk | hk | hk)
    · exact row_ne h1.row h1.cel (by decide) (by rw [e, hk])
    · exact row_ne_map h1.row (h1.fn.map hk) e
    · exact row_ne_rd h1.row (hrd0.fr hf1 (fun _ _ h => h)) e hk

end Go.Proofs.Ytbdmlenapccdnaa
namespace Go.Proofs.Ytbdmlenapccdnaa
open Go.RowKit

theorem Files.len {w : World} {m : Option Nat} {n : Nat} {V : ByteArray → Option Value} (h : Files w m n V) (W : World) (hW : ∀ b, m = some b → W.heap[b]? = w.heap[b]?) (ty : TypeId) : ∃ k : Nat, k ≤ n ∧ (Builtin.len_ #[70] ty #[.map m]).run Try.prog W = .ok (.int .i64 k) W := by
  rcases h with ⟨rfl, _⟩ | ⟨b, rfl, h⟩
  · exact ⟨0, Nat.zero_le _, Maps.len_nil Try.underlying70 ty⟩
  · exact (h.ofBlock (hW b rfl)).len ty
theorem name_size {s : ByteArray} (h : Dx.name s = true) : 1 ≤ s.size ∧ s.size ≤ 80 := by
  unfold Dx.name at h
  rw [Bool.and_eq_true, decide_eq_true_eq] at h
  exact h.1

/-- what a Write leaves that is done, but for the fuse -/
def WritePost (w : World) (d B : Nat) (σ : Dv) (s : ByteArray) (data l : List Int) (code fuse' steps' : Int) (off' : Bool) (e : Ending) (w' : World) : Prop :=
  e = .returned (.int .i64 code) ∧ ∃ A cc b v' pv', DInv w' d B { σ with S := upd (upd σ.S (.now s) (some (v', l ++ data))) (.pend σ.cs.length) (some (.slice A data.length cc, data)), mn := some b, nn := σ.nn + 1, un := σ.un + data.length, pv := pv', cs := σ.cs ++ [⟨0, s, ⟨#[]⟩, A, data.length, cc⟩], fuse := fuse', steps := steps', off := off' } ∧ Fr (foot d σ) w w' ∧
    ∀ k, foot d { σ with S := upd (upd σ.S (.now s) (some (v', l ++ data))) (.pend σ.cs.length) (some (.slice A data.length cc, data)), mn := some b, pv := pv' } k → foot d σ k ∨ w.heap.size ≤ k

set_option maxRecDepth 100000 in
set_option maxHeartbeats 1000000 in
theorem Write_do (w : World) (d B : Nat) (σ : Dv) (s : ByteArray) (A0 : Option Addr) (cap0 : Nat) (data l : List Int) (v0 : Value) (h : DInv w d B σ) (hB : B ≤ w.heap.size) (hp : (σ.S (.now s)).getD (nilS, []) = (v0, l)) (hs : Dx.name s = true) (hoff : σ.off = false)
    (hd : Rd w .u8 A0 data) (hA0 : A0 = none → cap0 = 0) (hl : l.length + data.length ≤ 100000000) (hu : 0 ≤ σ.un ∧ σ.un + data.length ≤ σ.room ∧ σ.room ≤ 1000000000) (hn : σ.nn < 2000) (hc : σ.cs.length ≤ 1000000)
    (code fuse' steps' : Int) (off' : Bool)
    (hst : ∀ w3 pv' mn un, Cel w3 d 75 (dc mn un σ.ms σ.us pv' σ.room σ.fuse σ.steps σ.off) → Calls Try.prog 41 #[.pointer (some ⟨d, 0, none⟩)] w3 fun e w4 => e = .returned (.int .i64 code) ∧ Cel w4 d 75 (dc mn un σ.ms σ.us pv' σ.room fuse' steps' off') ∧ Fr (fun k => k = d) w3 w4) :
    Calls Try.prog 13 #[.pointer (some ⟨d, 0, none⟩), .string s, .slice A0 data.length cap0] w (WritePost w d B σ s data l code fuse' steps' off') := by
  have hsz := name_size hs
  have hsm : s.size ≤ maxLen := by unfold maxLen; omega
  obtain ⟨W0, hW0⟩ : ∃ W0, w.alloc (.cells #[.string s] 9) = W0 := ⟨_, rfl⟩
  have hf0 : Fr (fun _ => False) w W0 := by rw [← hW0]; exact Fr.alloc w _ _
  have h0 := h.keep hf0
  have hN0 : Cel W0 w.heap.size 9 #[.string s] := by rw [← hW0]; exact heap_alloc_new w _
  have hrdy : Calls Try.prog 37 #[.pointer (some ⟨d, 0, none⟩), .slice (some ⟨w.heap.size, 0, none⟩) 1 1] W0 fun e w' => e = .returned (.int .i64 0) ∧ W0 = w' := by
    have := ready_any σ.mn σ.ms σ.un σ.us σ.room σ.fuse σ.steps σ.pv σ.off W0 d [s] (some ⟨w.heap.size, 0, none⟩) 1 h0.cel (.inr ⟨_, 0, rfl, fun i x hi => by
      match i, hi with
      | 0, hi => simp at hi; subst hi; exact hN0.cell 0
      | i + 1, hi => simp at hi⟩) (by simp) (fun x hx => by simp at hx; subst hx; exact hsm)
    simp only [readyR, List.all_cons, hs, List.all_nil, Bool.and_true, hoff, if_true] at this
    exact this
  have hhas := has_any W0 d 0 75 σ.cells σ.mn σ.nn (vnow σ.S) s h0.cel rfl h0.fn hsm
  have hdw : Rd W0 .u8 A0 data := hd.keep hf0.size (fun p hp => World.cell?_of_block (hf0.block p.block hp (fun h => h)))
  obtain ⟨lk, hlk, hlen⟩ := h0.fn.len W0 (fun _ _ => rfl) 3
  have c0 := (h0.cel.cell 0).trans dc0
  have HR := Lib.hid hrdy
  have HH := Lib.hid hhas
  have HST := Lib.hid hst
  have HP := Lib.hid hp
  have HW := Lib.hid hW0
  have tl : decide ((2000 : Int) ≤ (lk : Int)) = false := by simp; omega
  have tl2 : decide ((lk : Int) ≥ 2000) = false := by simp; omega
  clear hrdy hhas hst hp hW0 hoff
  go_enter Try.func13, Try.ntmps13
  go_wp2_with fail
  rw [HW.out]
  refine HR.out.mono ?_
  rintro e w' ⟨rfl, rfl⟩
  go_wp2_with fail
  refine HH.out.mono ?_
  rintro e w' ⟨rfl, rfl⟩
  cases hsome : (vnow σ.S s).isSome
  all_goals
    go_wp2_with fail
    refine (Free_any σ.mn σ.ms σ.un σ.us σ.room σ.fuse σ.steps σ.pv σ.off W0 d h0.cel (by omega) hu.2.2).mono ?_
    rintro e w' ⟨rfl, n1, rfl⟩
    have hcmp : decide ((σ.room - σ.un : Int) < (data.length : Int)) = false := by simp; omega
    go_wp2_with fail
    refine (Clone_any data A0 cap0 _ (hdw.below (below_drewN (Below.refl _ _) n1)) hA0 (by omega)).mono ?_
    rintro e w2 ⟨vv, rfl, hrv, hfrv, hf2⟩
    obtain ⟨A1, c1, rfl, _, _, _⟩ := hrv.form
    have h2 : DInv w2 d B σ := (h0.keep (Fr.drewN W0 n1 _)).keep hf2
    have hsz2 : w.heap.size ≤ w2.heap.size := Nat.le_trans hf0.size hf2.size
    go_wp2_with fail
    refine (show Calls Try.prog 39 #[.pointer (some ⟨d, 0, none⟩), chg 0 s ⟨#[]⟩ (.slice A1 data.length c1)] w2 _ from change_write w2 d B σ s ⟨#[]⟩ A1 c1 data l v0 h2 (Nat.le_trans hB hsz2) HP.out hsm hrv (fun g e hk => ?_) hl (by omega) (by omega) hc code fuse' steps' off' HST.out).mono ?_
    · have h5 := hfrv g e
      have h6 := h0.foot_lt hk
      have h7 : (W0.drewN n1).heap.size = W0.heap.size := rfl
      omega
    · rintro e w3 ⟨rfl, b, v', pv', hD, hF, hft⟩
      go_wp2
      go_ret
      refine ⟨rfl, A1, c1, b, v', pv', hD, ?_, fun k hk => ?_⟩
      · exact (((hf0.mono (fun _ h => h.elim)).trans (Fr.drewN W0 n1 _)).trans (hf2.mono (fun _ h => h.elim))).trans hF
      · rcases hft k hk with hk | hk | hk
        · exact .inl hk
        · have h5 := hfrv k hk
          have h7 : (W0.drewN n1).heap.size = W0.heap.size := rfl
          have h8 := hf0.size
          exact .inr (by omega)
        · exact .inr (by omega)

end Go.Proofs.Ytbdmlenapccdnaa
namespace Go.Proofs.Ytbdmlenapccdnaa
open Go.RowKit

/-- the family behind a move, and behind a drop -/
def famMove (S : Fam) (s t : ByteArray) : Fam := fun q => if q = .now s then none else if q = .now t then S (.now s) else S q
def famDrop (S : Fam) (s : ByteArray) : Fam := upd S (.now s) none
theorem famMove_ok {w : World} {S : Fam} (h : FamOk w S) (s t : ByteArray) : FamOk w (famMove S s t) := by
  refine h.sub (fun q => if q = .now t then .now s else q) (fun p x e => ?_) (fun p q x y e e' hpq => ?_) (fun p => by
    by_cases hp : p = .now t
    · simp [hp, Slot.live]
    · simp [hp])
  · unfold famMove at e
    split at e
    · cases e
    · split at e
      · rename_i h1 h2
        simpa [h2] using e
      · rename_i h1 h2
        simpa [h2] using e
  · unfold famMove at e e'
    by_cases hp : p = .now t
    · by_cases hq : q = .now t
      · exact absurd (hp.trans hq.symm) hpq
      · by_cases hqs : q = .now s
        · rw [if_pos hqs] at e'; cases e'
        · simp only [if_pos hp, if_neg hq]
          exact fun e => hqs e.symm
    · by_cases hps : p = .now s
      · rw [if_pos hps] at e; cases e
      · by_cases hq : q = .now t
        · simp only [if_neg hp, if_pos hq]
          exact hps
        · simp only [if_neg hp, if_neg hq]
          exact hpq

/-- a change whose apply turns the map of now alone, and lays no bytes -/
theorem change_plain (w : World) (d B : Nat) (σ : Dv) (kk : Int) (s t : ByteArray) (b : Nat) (nn' : Nat) (un' : Int) (S' : Fam) (h : DInv w d B σ) (hB : B ≤ w.heap.size) (hmn : σ.mn = some b) (hc : σ.cs.length ≤ 1000000)
    (hS : ∀ W, FamOk W σ.S → FamOk W S') (hS1 : ∀ p v l, S' p = some (v, l) → ∃ q, σ.S q = some (v, l)) (hS2 : ∀ x, S' (.safe x) = σ.S (.safe x)) (hS3 : ∀ i, S' (.pend i) = σ.S (.pend i))
    (hap : ∀ w1, DInv w1 d B σ → Calls Try.prog 54 #[.pointer (some ⟨d, 0, none⟩), chg kk s t (.slice none 0 0)] w1 fun e w2 => e = .returned (.tuple #[]) ∧ Cel w2 d 75 (dc (some b) un' σ.ms σ.us σ.pv σ.room σ.fuse σ.steps σ.off) ∧ MapV w2 b nn' (vnow S') ∧ Fr (fun k => k = d ∨ k = b) w1 w2)
    (code fuse' steps' : Int) (off' : Bool)
    (hst : ∀ w3 pv' mn un, Cel w3 d 75 (dc mn un σ.ms σ.us pv' σ.room σ.fuse σ.steps σ.off) → Calls Try.prog 41 #[.pointer (some ⟨d, 0, none⟩)] w3 fun e w4 => e = .returned (.int .i64 code) ∧ Cel w4 d 75 (dc mn un σ.ms σ.us pv' σ.room fuse' steps' off') ∧ Fr (fun k => k = d) w3 w4) :
    Calls Try.prog 39 #[.pointer (some ⟨d, 0, none⟩), chg kk s t (.slice none 0 0)] w fun e w' => e = .returned (.int .i64 code) ∧ ∃ pv',
      DInv w' d B { σ with S := upd S' (.pend σ.cs.length) (some (nilS, [])), nn := nn', un := un', pv := pv', cs := σ.cs ++ [⟨kk, s, t, none, 0, 0⟩], fuse := fuse', steps := steps', off := off' } ∧
      Fr (foot d σ) w w' ∧ ∀ k, foot d { σ with S := upd S' (.pend σ.cs.length) (some (nilS, [])), pv := pv' } k → foot d σ k ∨ w.heap.size ≤ k := by
  have hbs : ∀ b', σ.ms = some b' → b' ≠ b := by
    rintro b' e rfl
    exact h.mm _ hmn e
  have key := change_gen w d B kk s t none 0 0 (fun w2 => ∃ w1, Fr (fun _ => False) w w1 ∧ Cel w2 d 75 (dc (some b) un' σ.ms σ.us σ.pv σ.room σ.fuse σ.steps σ.off) ∧ MapV w2 b nn' (vnow S') ∧ Fr (fun k => k = d ∨ k = b) w1 w2) σ.ms un' σ.us σ.room σ.fuse σ.steps σ.pv σ.off σ.cs.length (σ.cs.flatMap Ch.cells) ?_ ?_ hc hB code fuse' steps' off' (fun w3 pv' mn => hst w3 pv' mn _)
  · refine key.mono ?_
    rintro e w' ⟨rfl, w2, pv', mn, ⟨w1, hf1, hC2, hM2, hf2⟩, hCm, hrow2, hC', hrow', hpv, hf', hsz⟩
    have hmn' : mn = some b := by
      have h1 : w2.heap[d]? = _ := hCm
      have h2 : w2.heap[d]? = _ := hC2
      rw [h1] at h2
      injection h2 with h2
      injection h2 with h2
      have := congrArg (fun C : Array Value => C[0]?) h2
      simp [dc] at this
      exact this
    subst hmn'
    have h1 := h.keep hf1
    have hup2 : ∀ u k, RdB w1 u k → RdB w2 u k := fun u k hu => hu.fr hf2 (fun g e => by
      rintro (hk | hk)
      · exact h1.cel.ne_rd hu (by decide) (by rw [e, hk])
      · exact map_ne_rd (h1.fn.map hmn) hu (by rw [e, hk]))
    have hfam2 : FamOk w2 S' := (hS w1 h1.fam).keep (fun p u k e => hup2 u k ((hS w1 h1.fam).rd p u k e))
    have hfs2 : Files w2 σ.ms σ.ns (vsafe σ.S) := h1.fs.fr hf2 (fun b' e => by
      rintro (hk | hk)
      · exact h1.cel.ne_map (h1.fs.map e) hk.symm
      · exact hbs b' e hk)
    have hupR : ∀ u k, RdB w2 u k → RdB w' u k := fun u k hu => hu.fr hf' (fun g e => by
      rintro (hk | hk)
      · exact hCm.ne_rd hu (by decide) (by rw [e, hk])
      · exact row_ne_rd hrow2 hu hk e)
    have hupM : ∀ b' n V, MapV w2 b' n V → MapV w' b' n V := fun b' n V hM => hM.fr hf' (by
      rintro (hk | hk)
      · exact hCm.ne_map hM hk.symm
      · exact row_ne_map hrow2 hM hk)
    have hfam' : FamOk w' (upd S' (.pend σ.cs.length) (some (nilS, []))) :=
      (hfam2.keep (fun p u k e => hupR u k (hfam2.rd p u k e))).add (.pend σ.cs.length) RdB.nil (fun g e => by cases e)
    refine ⟨rfl, pv', ⟨by rw [← hmn] at hC'; exact hC', ?_, ?_, hfam', h.mm, ?_, ?_, ?_⟩, ?_, ?_⟩
    · refine .inr ⟨b, hmn, ?_⟩
      have hV : vnow (upd S' (.pend σ.cs.length) (some (nilS, []))) = vnow S' := by
        funext x
        unfold vnow
        rw [upd_other _ _ (by simp)]
      show MapV w' b nn' (vnow (upd S' (.pend σ.cs.length) (some (nilS, []))))
      rw [hV]
      exact hupM _ _ _ hM2
    · have hV : vsafe (upd S' (.pend σ.cs.length) (some (nilS, []))) = vsafe σ.S := by
        funext x
        unfold vsafe
        rw [upd_other _ _ (by simp), hS2]
      show Files w' σ.ms σ.ns (vsafe (upd S' (.pend σ.cs.length) (some (nilS, []))))
      rw [hV]
      exact hfs2.fr hf' (fun b' e => by
        rintro (hk | hk)
        · exact hCm.ne_map (hfs2.map e) hk.symm
        · exact row_ne_map hrow2 (hfs2.map e) hk)
    · simp only [List.length_append, List.length_cons, List.length_nil, List.flatMap_append, List.flatMap_cons, List.flatMap_nil, List.append_nil]
      exact hrow'
    · intro i c hi
      by_cases hic : i = σ.cs.length
      · subst hic
        simp at hi
        subst hi
        exact ⟨[], upd_same _ _ _, rfl⟩
      · rw [List.getElem?_append] at hi
        split at hi
        · obtain ⟨l', e1, e2⟩ := h.pend i c hi
          exact ⟨l', by show upd S' (.pend σ.cs.length) (some (nilS, [])) (.pend i) = _; rw [upd_other _ _ (by simpa using hic), hS3]; exact e1, e2⟩
        · exfalso
          rw [List.getElem?_eq_none (by simp; omega)] at hi
          cases hi
    · intro i hi
      simp at hi
      show upd S' (.pend σ.cs.length) (some (nilS, [])) (.pend i) = _
      rw [upd_other _ _ (by simp; omega), hS3]
      exact h.pend0 i (by omega)
    · have f12 : Fr (foot d σ) w w2 := (hf1.mono (fun _ h => h.elim)).trans (hf2.mono (fun i hk => .inl (by
        rcases hk with hk | hk
        · exact .inl hk
        · exact .inr (.inl (by rw [hk]; exact hmn)))))
      exact f12.trans (hf'.mono (fun i hk => .inl (by
        rcases hk with hk | hk
        · exact .inl hk
        · exact .inr (.inr (.inr (.inl hk))))))
    · rintro k (hk | hk | hk | hk | ⟨p, u, m, e, hk⟩)
      · exact .inl (.inl hk)
      · exact .inl (.inr (.inl hk))
      · exact .inl (.inr (.inr (.inl hk)))
      · rcases hpv with ho | ⟨g, ho, hge⟩
        · exact .inl (.inr (.inr (.inr (.inl (by rw [← ho]; exact hk)))))
        · rw [ho] at hk
          cases hk
          exact .inr (Nat.le_trans hsz hge)
      · have e : upd S' (.pend σ.cs.length) (some (nilS, [])) p = some (u, m) := e
        by_cases hpe : p = .pend σ.cs.length
        · subst hpe
          rw [upd_same] at e
          cases e
          cases hk
        · rw [upd_other _ _ hpe] at e
          obtain ⟨q, hq⟩ := hS1 p u m e
          exact .inl (.inr (.inr (.inr (.inr ⟨q, u, m, hq, hk⟩))))
  · intro w1 hf1
    have h1 := h.keep hf1
    refine (hap w1 h1).mono ?_
    rintro e w2 ⟨rfl, hC2, hM2, hf2⟩
    refine ⟨rfl, ⟨w1, hf1, hC2, hM2, hf2⟩, hf2.mono (fun i hk => .inl ?_)⟩
    rcases hk with hk | hk
    · rw [hk]; exact h.cel.lt
    · rw [hk]; exact h.fn.lt hmn
  · rintro w2 ⟨w1, hf1, hC2, hM2, hf2⟩
    have h1 := h.keep hf1
    refine ⟨some b, hC2, own_fr h1.row hf2 (fun g e => ?_)⟩
    rintro (hk | hk)
    · exact row_ne h1.row h1.cel (by decide) (by rw [e, hk])
    · exact row_ne_map h1.row (h1.fn.map hmn) (by rw [e, hk])

/-- what a plain change leaves -/
def PlainPost (w : World) (d B : Nat) (σ : Dv) (kk : Int) (s t : ByteArray) (S' : Fam) (nn' : Nat) (un' : Int) (code fuse' steps' : Int) (off' : Bool) (e : Ending) (w' : World) : Prop :=
  e = .returned (.int .i64 code) ∧ ∃ pv', DInv w' d B { σ with S := upd S' (.pend σ.cs.length) (some (nilS, [])), nn := nn', un := un', pv := pv', cs := σ.cs ++ [⟨kk, s, t, none, 0, 0⟩], fuse := fuse', steps := steps', off := off' } ∧
      Fr (foot d σ) w w' ∧ ∀ k, foot d { σ with S := upd S' (.pend σ.cs.length) (some (nilS, [])), pv := pv' } k → foot d σ k ∨ w.heap.size ≤ k
theorem cells_set1 (σ : Dv) (b : Nat) (hmn : σ.mn = some b) (x : Int) : σ.cells.setIfInBounds (0 + 1) (.int .i64 x) = dc (some b) x σ.ms σ.us σ.pv σ.room σ.fuse σ.steps σ.off := by
  unfold Dv.cells
  rw [hmn]
  rfl
theorem mn_some {w : World} {d B : Nat} {σ : Dv} (h : DInv w d B σ) {s : ByteArray} {x : Value × List Int} (e : σ.S (.now s) = some x) : ∃ b, σ.mn = some b := by
  rcases h.fn with ⟨_, hV⟩ | ⟨b, hb, _⟩
  · have := congrFun hV s
    unfold vnow at this
    rw [e] at this
    cases this
  · exact ⟨b, hb⟩

theorem change_drop (w : World) (d B : Nat) (σ : Dv) (s : ByteArray) (v : Value) (l : List Int) (h : DInv w d B σ) (hB : B ≤ w.heap.size) (hp : σ.S (.now s) = some (v, l)) (hs : s.size ≤ maxLen) (hl : l.length ≤ 100000000) (hu : 0 ≤ σ.un ∧ σ.un ≤ 1000000000000) (hc : σ.cs.length ≤ 1000000)
    (code fuse' steps' : Int) (off' : Bool)
    (hst : ∀ w3 pv' mn un, Cel w3 d 75 (dc mn un σ.ms σ.us pv' σ.room σ.fuse σ.steps σ.off) → Calls Try.prog 41 #[.pointer (some ⟨d, 0, none⟩)] w3 fun e w4 => e = .returned (.int .i64 code) ∧ Cel w4 d 75 (dc mn un σ.ms σ.us pv' σ.room fuse' steps' off') ∧ Fr (fun k => k = d) w3 w4) :
    Calls Try.prog 39 #[.pointer (some ⟨d, 0, none⟩), chg 2 s ⟨#[]⟩ (.slice none 0 0)] w (PlainPost w d B σ 2 s ⟨#[]⟩ (famDrop σ.S s) σ.nn (σ.un - l.length) code fuse' steps' off') := by
  obtain ⟨b, hmn⟩ := mn_some h hp
  have hvs : (vnow σ.S s).getD nilS = v := by unfold vnow; rw [hp]; rfl
  refine change_plain w d B σ 2 s ⟨#[]⟩ b σ.nn (σ.un - l.length) (famDrop σ.S s) h hB hmn hc (fun W hW => hW.drop _) (fun p u k e => ?_) (fun x => upd_other _ _ (by simp)) (fun i => upd_other _ _ (by simp)) (fun w1 h1 => ?_) code fuse' steps' off' hst
  · unfold famDrop at e
    by_cases hq : p = .now s
    · subst hq; rw [upd_same] at e; cases e
    · rw [upd_other _ _ hq] at e; exact ⟨p, e⟩
  · refine (apply_drop w1 d 0 75 σ.cells b σ.nn (vnow σ.S) s ⟨#[]⟩ l σ.un (.slice none 0 0) h1.cel (by unfold Dv.cells; rw [hmn]; rfl) rfl (h1.fn.map hmn) hs (by rw [hvs]; exact h1.fam.rd _ _ _ hp) hl hu rfl).mono ?_
    rintro e w2 ⟨rfl, hC2, hM2, hf2⟩
    rw [cells_set1 σ b hmn] at hC2
    refine ⟨rfl, hC2, ?_, hf2⟩
    have hV : vnow (famDrop σ.S s) = fun x => if x = s then none else vnow σ.S x := by
      funext x
      unfold vnow famDrop upd
      by_cases hx : x = s
      · subst hx; simp
      · simp [hx]
    rw [hV]
    exact hM2

theorem change_move (w : World) (d B : Nat) (σ : Dv) (s t : ByteArray) (v v1 : Value) (l l1 : List Int) (h : DInv w d B σ) (hB : B ≤ w.heap.size) (hp : σ.S (.now s) = some (v, l)) (ht1 : (σ.S (.now t)).getD (nilS, []) = (v1, l1)) (hst0 : s ≠ t) (hs : s.size ≤ maxLen) (ht : t.size ≤ maxLen) (hl : l1.length ≤ 100000000) (hu : 0 ≤ σ.un ∧ σ.un ≤ 1000000000000) (hn : σ.nn < 1000000) (hc : σ.cs.length ≤ 1000000)
    (code fuse' steps' : Int) (off' : Bool)
    (hst : ∀ w3 pv' mn un, Cel w3 d 75 (dc mn un σ.ms σ.us pv' σ.room σ.fuse σ.steps σ.off) → Calls Try.prog 41 #[.pointer (some ⟨d, 0, none⟩)] w3 fun e w4 => e = .returned (.int .i64 code) ∧ Cel w4 d 75 (dc mn un σ.ms σ.us pv' σ.room fuse' steps' off') ∧ Fr (fun k => k = d) w3 w4) :
    Calls Try.prog 39 #[.pointer (some ⟨d, 0, none⟩), chg 1 s t (.slice none 0 0)] w (PlainPost w d B σ 1 s t (famMove σ.S s t) (σ.nn + 1) (σ.un - l1.length) code fuse' steps' off') := by
  obtain ⟨b, hmn⟩ := mn_some h hp
  have hvs : (vnow σ.S s).getD nilS = v := by unfold vnow; rw [hp]; rfl
  have hvt : (vnow σ.S t).getD nilS = v1 := by
    unfold vnow
    cases hS : σ.S (.now t) with
    | none => rw [hS] at ht1; cases ht1; rfl
    | some x => rw [hS] at ht1; cases ht1; rfl
  refine change_plain w d B σ 1 s t b (σ.nn + 1) (σ.un - l1.length) (famMove σ.S s t) h hB hmn hc (fun W hW => famMove_ok hW s t) (fun p u k e => ?_) (fun x => by simp [famMove]) (fun i => by simp [famMove]) (fun w1 h1 => ?_) code fuse' steps' off' hst
  · unfold famMove at e
    split at e
    · cases e
    · split at e
      · exact ⟨_, e⟩
      · exact ⟨_, e⟩
  · have hrd1 : RdB w1 v1 l1 := by
      cases hS : σ.S (.now t) with
      | none => rw [hS] at ht1; cases ht1; exact RdB.nil
      | some x => rw [hS] at ht1; cases ht1; exact h1.fam.rd _ _ _ hS
    refine (apply_move w1 d 0 75 σ.cells b σ.nn (vnow σ.S) s t l1 σ.un (.slice none 0 0) hst0 v hvs (h1.fam.rd _ _ _ hp).isS h1.cel (by unfold Dv.cells; rw [hmn]; rfl) rfl (h1.fn.map hmn) hs ht (by rw [hvt]; exact hrd1) hl hu hn rfl).mono ?_
    rintro e w2 ⟨rfl, hC2, hM2, hf2⟩
    rw [cells_set1 σ b hmn] at hC2
    refine ⟨rfl, hC2, ?_, hf2⟩
    have hV : vnow (famMove σ.S s t) = fun x => if x = s then none else if x = t then some v else vnow σ.S x := by
      funext x
      unfold vnow famMove
      by_cases hx : x = s
      · subst hx; simp
      · by_cases hy : x = t
        · subst hy; simp [hx, hp]
        · simp [hx, hy]
    rw [hV]
    exact hM2

end Go.Proofs.Ytbdmlenapccdnaa
namespace Go.Proofs.Ytbdmlenapccdnaa
open Go.RowKit

theorem PlainPost.lift {w w0 w' : World} {d B : Nat} {σ : Dv} {kk : Int} {s t : ByteArray} {S' : Fam} {nn' : Nat} {un' code fuse' steps' : Int} {off' : Bool} {e : Ending} (h : PlainPost w0 d B σ kk s t S' nn' un' code fuse' steps' off' e w') (hf : Fr (fun _ => False) w w0) : PlainPost w d B σ kk s t S' nn' un' code fuse' steps' off' e w' := by
  obtain ⟨h0, pv', h1, h2, h3⟩ := h
  exact ⟨h0, pv', h1, (hf.mono (fun _ h => h.elim)).trans h2, fun k hk => (h3 k hk).imp id (fun h => Nat.le_trans hf.size h)⟩

theorem str_ne {s t : ByteArray} (h : s ≠ t) : (s.toList == t.toList) = false := by
  rw [ByteArray.toList_eq, ByteArray.toList_eq, beq_eq_false_iff_ne]
  exact fun e => h (ByteArray.ext (Array.toList_inj.1 e))
theorem str_self (s : ByteArray) : (s.toList == s.toList) = true := by simp

set_option maxRecDepth 100000 in
set_option maxHeartbeats 1000000 in
theorem Move_do (w : World) (d B : Nat) (σ : Dv) (s t : ByteArray) (v v1 : Value) (l l1 : List Int) (h : DInv w d B σ) (hB : B ≤ w.heap.size) (hp : σ.S (.now s) = some (v, l)) (ht1 : (σ.S (.now t)).getD (nilS, []) = (v1, l1)) (hst0 : s ≠ t) (hs : Dx.name s = true) (ht : Dx.name t = true) (hoff : σ.off = false) (hl : l1.length ≤ 100000000) (hu : 0 ≤ σ.un ∧ σ.un ≤ 1000000000000) (hn : σ.nn < 1000000) (hc : σ.cs.length ≤ 1000000)
    (code fuse' steps' : Int) (off' : Bool)
    (hst : ∀ w3 pv' mn un, Cel w3 d 75 (dc mn un σ.ms σ.us pv' σ.room σ.fuse σ.steps σ.off) → Calls Try.prog 41 #[.pointer (some ⟨d, 0, none⟩)] w3 fun e w4 => e = .returned (.int .i64 code) ∧ Cel w4 d 75 (dc mn un σ.ms σ.us pv' σ.room fuse' steps' off') ∧ Fr (fun k => k = d) w3 w4) :
    Calls Try.prog 14 #[.pointer (some ⟨d, 0, none⟩), .string s, .string t] w (PlainPost w d B σ 1 s t (famMove σ.S s t) (σ.nn + 1) (σ.un - l1.length) code fuse' steps' off') := by
  have hsm : s.size ≤ maxLen := by have := name_size hs; unfold maxLen; omega
  have htm : t.size ≤ maxLen := by have := name_size ht; unfold maxLen; omega
  obtain ⟨W0, hW0⟩ : ∃ W0, w.alloc (.cells #[.string s, .string t] 9) = W0 := ⟨_, rfl⟩
  have hf0 : Fr (fun _ => False) w W0 := by rw [← hW0]; exact Fr.alloc w _ _
  have h0 := h.keep hf0
  have hN0 : Cel W0 w.heap.size 9 #[.string s, .string t] := by rw [← hW0]; exact heap_alloc_new w _
  have hrdy : Calls Try.prog 37 #[.pointer (some ⟨d, 0, none⟩), .slice (some ⟨w.heap.size, 0, none⟩) 2 2] W0 fun e w' => e = .returned (.int .i64 0) ∧ W0 = w' := by
    have := ready_any σ.mn σ.ms σ.un σ.us σ.room σ.fuse σ.steps σ.pv σ.off W0 d [s, t] (some ⟨w.heap.size, 0, none⟩) 2 h0.cel (.inr ⟨_, 0, rfl, fun i x hi => by
      match i, hi with
      | 0, hi => simp at hi; subst hi; exact hN0.cell 0
      | 1, hi => simp at hi; subst hi; exact hN0.cell 1
      | i + 2, hi => simp at hi⟩) (by simp) (fun x hx => by
        simp at hx
        rcases hx with rfl | rfl
        · exact hsm
        · exact htm)
    simp only [readyR, List.all_cons, hs, ht, List.all_nil, Bool.and_true, hoff, if_true] at this
    exact this
  have hhas := has_any W0 d 0 75 σ.cells σ.mn σ.nn (vnow σ.S) s h0.cel rfl h0.fn hsm
  have hsome : (vnow σ.S s).isSome = true := by unfold vnow; rw [hp]; rfl
  rw [hsome] at hhas
  have hchg := change_move W0 d B σ s t v v1 l l1 h0 (Nat.le_trans hB hf0.size) hp ht1 hst0 hsm htm hl hu hn hc code fuse' steps' off' hst
  have HR := Lib.hid hrdy
  have HH := Lib.hid hhas
  have HC := Lib.hid hchg
  have HW := Lib.hid hW0
  have tst := str_ne hst0
  clear hrdy hhas hst hW0 hoff hchg hp ht1 hsome
  go_enter Try.func14, Try.ntmps14
  go_wp2_with fail
  rw [HW.out]
  refine HR.out.mono ?_
  rintro e w' ⟨rfl, rfl⟩
  go_wp2_with fail
  refine HH.out.mono ?_
  rintro e w' ⟨rfl, rfl⟩
  go_wp2_with fail
  refine (show Calls Try.prog 39 #[.pointer (some ⟨d, 0, none⟩), chg 1 s t (.slice none 0 0)] W0 _ from HC.out).mono ?_
  intro e w3 hP
  have he : e = .returned (.int .i64 code) := hP.1
  subst he
  have hP' := hP.lift hf0
  clear hP
  go_wp2
  go_ret
  exact hP'

/-- the fuse, the steps, the power turn; nothing else -/
theorem DInv.turn {w w' : World} {d B : Nat} {σ : Dv} (h : DInv w d B σ) {fuse' steps' : Int} {off' : Bool} (hC : Cel w' d 75 (dc σ.mn σ.un σ.ms σ.us σ.pv σ.room fuse' steps' off')) (hf : Fr (fun k => k = d) w w') : DInv w' d B { σ with fuse := fuse', steps := steps', off := off' } :=
  ⟨hC, h.fn.fr hf (fun b e hk => h.cel.ne_map (h.fn.map e) hk.symm), h.fs.fr hf (fun b e hk => h.cel.ne_map (h.fs.map e) hk.symm),
   h.fam.keep (fun p u k e => (h.fam.rd p u k e).fr hf (fun g eg hk => h.cel.ne_rd (h.fam.rd p u k e) (by decide) (by rw [eg, hk]))), h.mm,
   own_fr h.row hf (fun g e hk => row_ne h.row h.cel (by decide) (by rw [e, hk])), h.pend, h.pend0⟩

set_option maxRecDepth 100000 in
set_option maxHeartbeats 1000000 in
theorem Move_self (w : World) (d B : Nat) (σ : Dv) (s : ByteArray) (v : Value) (l : List Int) (h : DInv w d B σ) (hp : σ.S (.now s) = some (v, l)) (hs : Dx.name s = true) (hoff : σ.off = false)
    (code fuse' steps' : Int) (off' : Bool)
    (hst : ∀ w3 pv' mn un, Cel w3 d 75 (dc mn un σ.ms σ.us pv' σ.room σ.fuse σ.steps σ.off) → Calls Try.prog 41 #[.pointer (some ⟨d, 0, none⟩)] w3 fun e w4 => e = .returned (.int .i64 code) ∧ Cel w4 d 75 (dc mn un σ.ms σ.us pv' σ.room fuse' steps' off') ∧ Fr (fun k => k = d) w3 w4) :
    Calls Try.prog 14 #[.pointer (some ⟨d, 0, none⟩), .string s, .string s] w fun e w' => e = .returned (.int .i64 code) ∧ DInv w' d B { σ with fuse := fuse', steps := steps', off := off' } ∧ Fr (fun k => k = d) w w' := by
  have hsm : s.size ≤ maxLen := by have := name_size hs; unfold maxLen; omega
  obtain ⟨W0, hW0⟩ : ∃ W0, w.alloc (.cells #[.string s, .string s] 9) = W0 := ⟨_, rfl⟩
  have hf0 : Fr (fun _ => False) w W0 := by rw [← hW0]; exact Fr.alloc w _ _
  have h0 := h.keep hf0
  have hN0 : Cel W0 w.heap.size 9 #[.string s, .string s] := by rw [← hW0]; exact heap_alloc_new w _
  have hrdy : Calls Try.prog 37 #[.pointer (some ⟨d, 0, none⟩), .slice (some ⟨w.heap.size, 0, none⟩) 2 2] W0 fun e w' => e = .returned (.int .i64 0) ∧ W0 = w' := by
    have := ready_any σ.mn σ.ms σ.un σ.us σ.room σ.fuse σ.steps σ.pv σ.off W0 d [s, s] (some ⟨w.heap.size, 0, none⟩) 2 h0.cel (.inr ⟨_, 0, rfl, fun i x hi => by
      match i, hi with
      | 0, hi => simp at hi; subst hi; exact hN0.cell 0
      | 1, hi => simp at hi; subst hi; exact hN0.cell 1
      | i + 2, hi => simp at hi⟩) (by simp) (fun x hx => by
        simp at hx
        subst hx
        exact hsm)
    simp only [readyR, List.all_cons, hs, List.all_nil, Bool.and_true, hoff, if_true] at this
    exact this
  have hhas := has_any W0 d 0 75 σ.cells σ.mn σ.nn (vnow σ.S) s h0.cel rfl h0.fn hsm
  have hsome : (vnow σ.S s).isSome = true := by unfold vnow; rw [hp]; rfl
  rw [hsome] at hhas
  have hchg := hst W0 σ.pv σ.mn σ.un h0.cel
  have HR := Lib.hid hrdy
  have HH := Lib.hid hhas
  have HC := Lib.hid hchg
  have HW := Lib.hid hW0
  have tst := str_self s
  clear hrdy hhas hst hW0 hoff hchg hp hsome
  go_enter Try.func14, Try.ntmps14
  go_wp2_with fail
  rw [HW.out]
  refine HR.out.mono ?_
  rintro e w' ⟨rfl, rfl⟩
  go_wp2_with fail
  refine HH.out.mono ?_
  rintro e w' ⟨rfl, rfl⟩
  go_wp2_with fail
  refine HC.out.mono ?_
  rintro e w3 ⟨rfl, hC', hf⟩
  go_wp2
  go_ret
  exact ⟨rfl, h0.turn hC' hf, (hf0.mono (fun _ h => h.elim)).trans hf⟩

set_option maxRecDepth 100000 in
set_option maxHeartbeats 1000000 in
theorem Drop_do (w : World) (d B : Nat) (σ : Dv) (s : ByteArray) (v : Value) (l : List Int) (h : DInv w d B σ) (hB : B ≤ w.heap.size) (hp : σ.S (.now s) = some (v, l)) (hs : Dx.name s = true) (hoff : σ.off = false) (hl : l.length ≤ 100000000) (hu : 0 ≤ σ.un ∧ σ.un ≤ 1000000000000) (hc : σ.cs.length ≤ 1000000)
    (code fuse' steps' : Int) (off' : Bool)
    (hst : ∀ w3 pv' mn un, Cel w3 d 75 (dc mn un σ.ms σ.us pv' σ.room σ.fuse σ.steps σ.off) → Calls Try.prog 41 #[.pointer (some ⟨d, 0, none⟩)] w3 fun e w4 => e = .returned (.int .i64 code) ∧ Cel w4 d 75 (dc mn un σ.ms σ.us pv' σ.room fuse' steps' off') ∧ Fr (fun k => k = d) w3 w4) :
    Calls Try.prog 15 #[.pointer (some ⟨d, 0, none⟩), .string s] w (PlainPost w d B σ 2 s ⟨#[]⟩ (famDrop σ.S s) σ.nn (σ.un - l.length) code fuse' steps' off') := by
  have hsm : s.size ≤ maxLen := by have := name_size hs; unfold maxLen; omega
  obtain ⟨W0, hW0⟩ : ∃ W0, w.alloc (.cells #[.string s] 9) = W0 := ⟨_, rfl⟩
  have hf0 : Fr (fun _ => False) w W0 := by rw [← hW0]; exact Fr.alloc w _ _
  have h0 := h.keep hf0
  have hN0 : Cel W0 w.heap.size 9 #[.string s] := by rw [← hW0]; exact heap_alloc_new w _
  have hrdy : Calls Try.prog 37 #[.pointer (some ⟨d, 0, none⟩), .slice (some ⟨w.heap.size, 0, none⟩) 1 1] W0 fun e w' => e = .returned (.int .i64 0) ∧ W0 = w' := by
    have := ready_any σ.mn σ.ms σ.un σ.us σ.room σ.fuse σ.steps σ.pv σ.off W0 d [s] (some ⟨w.heap.size, 0, none⟩) 1 h0.cel (.inr ⟨_, 0, rfl, fun i x hi => by
      match i, hi with
      | 0, hi => simp at hi; subst hi; exact hN0.cell 0
      | i + 1, hi => simp at hi⟩) (by simp) (fun x hx => by simp at hx; subst hx; exact hsm)
    simp only [readyR, List.all_cons, hs, List.all_nil, Bool.and_true, hoff, if_true] at this
    exact this
  have hhas := has_any W0 d 0 75 σ.cells σ.mn σ.nn (vnow σ.S) s h0.cel rfl h0.fn hsm
  have hsome : (vnow σ.S s).isSome = true := by unfold vnow; rw [hp]; rfl
  rw [hsome] at hhas
  have hchg := change_drop W0 d B σ s v l h0 (Nat.le_trans hB hf0.size) hp hsm hl hu hc code fuse' steps' off' hst
  have HR := Lib.hid hrdy
  have HH := Lib.hid hhas
  have HC := Lib.hid hchg
  have HW := Lib.hid hW0
  clear hrdy hhas hst hW0 hoff hchg hp hsome
  go_enter Try.func15, Try.ntmps15
  go_wp2_with fail
  rw [HW.out]
  refine HR.out.mono ?_
  rintro e w' ⟨rfl, rfl⟩
  go_wp2_with fail
  refine HH.out.mono ?_
  rintro e w' ⟨rfl, rfl⟩
  go_wp2_with fail
  refine (show Calls Try.prog 39 #[.pointer (some ⟨d, 0, none⟩), chg 2 s ⟨#[]⟩ (.slice none 0 0)] W0 _ from HC.out).mono ?_
  intro e w3 hP
  have he : e = .returned (.int .i64 code) := hP.1
  subst he
  have hP' := hP.lift hf0
  clear hP
  go_wp2
  go_ret
  exact hP'

end Go.Proofs.Ytbdmlenapccdnaa
