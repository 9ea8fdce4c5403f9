/- The contract of settle, whatever apply does. -/
import Derived.Test.YtpljmoiemmaecaaDt
namespace Go.Proofs.Ytpljmoiemmaecaa
open Go.RowKit

theorem zeroChg (w : World) : (zeroValue 69).run Try.prog w = .ok (.agg #[.int .i64 0, .string ⟨#[]⟩, .string ⟨#[]⟩, .slice none 0 0]) w := by kernel_rfl
theorem zero_one : ∀ n, ∀ u ∈ (Builtin.zeroCells (Value.agg #[.int .i64 0, .string ⟨#[]⟩, .string ⟨#[]⟩, .slice none 0 0]).cells n).toList, u.oneCell' = true := by
  intro n u hu
  simp only [Builtin.zeroCells, Array.toList_map, List.mem_map] at hu
  obtain ⟨i, _, rfl⟩ := hu
  have h4 : i % 4 < 4 := Nat.mod_lt _ (by decide)
  rcases (show i % 4 = 0 ∨ i % 4 = 1 ∨ i % 4 = 2 ∨ i % 4 = 3 by omega) with h | h | h | h <;> simp [Value.cells, h, Value.oneCell']
theorem run_clear_chg {w : World} {B n : Nat} {v : Value} {xs : List Value} (h : w.ownsRow B 69 4 v n xs) (ty : TypeId) :
    ∃ w', (Builtin.clear_ #[59] ty #[v]).run Try.prog w = .ok (.tuple #[]) w' ∧ w.grownBy w' v.ownBlock ∧ ∀ A cap, v = .slice A n cap → w'.ownsRow B 69 4 (.slice A 0 cap) 0 [] := by
  rcases h.2 with ⟨rfl, rfl⟩ | ⟨g, cap, cur, rfl, hb, hg, hnc, hcm, hcs, _⟩
  · refine ⟨w, by simp [Builtin.clear_, run_underlying Try.underlying59], ⟨rfl, rfl, rfl, Nat.le_refl _, fun _ _ _ => rfl⟩, fun A cap e => ?_⟩
    injection e with e1 _ e2
    subst e1
    subst e2
    exact World.ownsRow_nil w B 69 4
  · by_cases h0 : n = 0
    · subst h0
      refine ⟨w, by simp [Builtin.clear_, run_underlying Try.underlying59], ⟨rfl, rfl, rfl, Nat.le_refl _, fun _ _ _ => rfl⟩, fun A cap' e => ?_⟩
      injection e with e1 _ e2
      subst e1
      subst e2
      exact ⟨rfl, .inr ⟨g, cap, cur, rfl, hb, hg, Nat.zero_le _, hcm, hcs, by simp⟩⟩
    · obtain ⟨ZL, hZL⟩ : ∃ ZL, (Builtin.zeroCells (Value.agg #[.int .i64 0, .string ⟨#[]⟩, .string ⟨#[]⟩, .slice none 0 0]).cells n).toList = ZL := ⟨_, rfl⟩
      have hzl : ZL.length = n * 4 := by rw [← hZL]; simp [size_zeroCells, Value.cells]
      have hst := run_storeCells_at Try.prog g 0 69 ZL 0 cur w hg (by omega) (by rw [← hZL]; exact zero_one n)
      obtain ⟨W, hW⟩ : ∃ W, w.setRow g (cur.toList.take (0 + 0) ++ ZL ++ cur.toList.drop (0 + 0 + ZL.length)).toArray = W := ⟨_, rfl⟩
      rw [hW] at hst
      have hheap := setRow_heap w g cur (cur.toList.take (0 + 0) ++ ZL ++ cur.toList.drop (0 + 0 + ZL.length)).toArray 69 (0, 0) hg
      rw [hW] at hheap
      refine ⟨W, ?_, ⟨by rw [← hW]; rfl, by rw [← hW]; rfl, by rw [← hW]; rfl, by rw [← hW]; simp, fun k _ hk => by rw [← hW]; exact setRow_other w g k _ (fun e => hk (by simp [Value.ownBlock, e]))⟩, fun A cap' e => ?_⟩
      · obtain ⟨n', rfl⟩ : ∃ n', n = n' + 1 := ⟨n - 1, by omega⟩
        have hzv : ∀ w, (zeroValue 69).run Try.prog w = .ok (.agg #[.int .i64 0, .string ⟨#[]⟩, .string ⟨#[]⟩, .slice none 0 0]) w := zeroChg
        simp [Builtin.clear_, run_underlying Try.underlying59, hzv, hZL, hst]
      · injection e with e1 _ e2
        subst e1
        subst e2
        exact ⟨rfl, .inr ⟨g, cap, _, rfl, hb, hheap, Nat.zero_le _, hcm, by simp; omega, by simp⟩⟩

/-- a change as it lies in memory -/
structure Ch where
  k : Int
  s : ByteArray
  t : ByteArray
  A : Option Addr
  n : Nat
  c : Nat
def Ch.cells (c : Ch) : List Value := chgCells c.k c.s c.t (.slice c.A c.n c.c)
def Ch.val (c : Ch) : Value := chg c.k c.s c.t (.slice c.A c.n c.c)
theorem flat_at : ∀ (cs : List Ch) (i : Nat) (c : Ch) (j : Nat), cs[i]? = some c → j < 4 → (cs.flatMap Ch.cells)[i * 4 + j]? = c.cells[j]?
  | [], i, c, j, h, _ => by simp at h
  | x :: cs, 0, c, j, h, hj => by
    simp at h
    subst h
    rw [List.flatMap_cons, Nat.zero_mul, Nat.zero_add, List.getElem?_append_left (by simpa [Ch.cells, chgCells] using hj)]
  | x :: cs, i + 1, c, j, h, hj => by
    have ih := flat_at cs i c j (by simpa using h) hj
    rw [List.flatMap_cons, List.getElem?_append_right (by simp [Ch.cells, chgCells]; omega), ← ih]
    congr 1
    simp [Ch.cells, chgCells]
    omega

set_option maxRecDepth 100000 in
set_option maxHeartbeats 1000000 in
theorem settle_some (w : World) (d B p cap keep : Nat) (cs : List Ch) (I : Nat → World → Prop) (mn : Option Nat) (un room fuse steps : Int) (off : Bool) (hk : keep ≤ cs.length) (hcap : cs.length ≤ cap) (hcm : cap ≤ maxLen)
    (hI : ∀ i W, I i W → ∃ ms us, Cel W d 61 (dc mn un ms us (.slice (some ⟨p, 0, none⟩) cs.length cap) room fuse steps off) ∧ W.ownsRow B 69 4 (.slice (some ⟨p, 0, none⟩) cs.length cap) cs.length (cs.flatMap Ch.cells))
    (hst : ∀ i W W', I i W → Fr (fun _ => False) W W' → I i W')
    (hap : ∀ i c W W0, i < keep → cs[i]? = some c → I i W0 → Fr (fun _ => False) W0 W → Calls Try.prog 41 #[.pointer (some ⟨d, 2, none⟩), c.val] W fun e W' => e = .returned (.tuple #[]) ∧ I (i + 1) W' ∧ Fr (fun k => k < W0.heap.size) W W')
    (h0 : I 0 w) :
    Calls Try.prog 36 #[.pointer (some ⟨d, 0, none⟩), .int .i64 keep] w fun e w' => e = .returned (.tuple #[]) ∧ ∃ w2 ms us, I keep w2 ∧ Cel w2 d 61 (dc mn un ms us (.slice (some ⟨p, 0, none⟩) cs.length cap) room fuse steps off) ∧ Cel w' d 61 (dc mn un ms us (.slice (some ⟨p, 0, none⟩) 0 cap) room fuse steps off) ∧
      w'.ownsRow B 69 4 (.slice (some ⟨p, 0, none⟩) 0 cap) 0 [] ∧ Fr (fun k => k = d ∨ k = p) w2 w' := by
  have HI := Lib.hid hI
  have HS := Lib.hid hst
  have HA := Lib.hid hap
  obtain ⟨ms0, us0, hD0, hr0⟩ := hI 0 w h0
  have d4 := (hD0.cell 4).trans dc4
  unfold maxLen at hcm
  clear hI hst hap
  go_enter Try.func36, Try.ntmps36
  go_wp2
  go_loopw [13] (fun i wr => ∃ k : Nat, k ≤ keep ∧ i = .int .i64 k ∧ I k wr) (fun i _ => keep - (intOf i).toNat)
  case atStart => exact ⟨0, by omega, rfl, h0⟩
  case round =>
    obtain ⟨i, hi, rfl, hIi⟩ := hrel
    obtain ⟨ms, us, hD, hrow⟩ := HI.out i wr hIi
    clear d4 hD0 hr0
    by_cases hlt : i < keep
    · obtain ⟨c, hc⟩ : ∃ c, cs[i]? = some c := ⟨_, List.getElem?_eq_getElem (by omega)⟩
      have hx : ∀ j, j < 4 → wr.cell? ⟨p, i * 4 + j, none⟩ = c.cells[j]? := fun j hj => by
        rw [hrow.cellAt (i * 4 + j) (by omega), flat_at cs i c j hc hj]
      have x0 := hx 0 (by omega)
      have x1 := hx 1 (by omega)
      have x2 := hx 2 (by omega)
      have x3 := hx 3 (by omega)
      simp [Ch.cells, chgCells] at x0 x1 x2 x3
      clear hx
      obtain ⟨W1, hW1⟩ : ∃ W1, (wr.alloc (.cells #[.int .i64 c.k, .string c.s, .string c.t, .slice c.A c.n c.c] 69)).drew = W1 := ⟨_, rfl⟩
      have hfW : Fr (fun _ => False) wr W1 := by rw [← hW1]; exact (Fr.alloc wr _ _).trans (Fr.drew _ _)
      have hC1 : Cel W1 wr.heap.size 69 #[.int .i64 c.k, .string c.s, .string c.t, .slice c.A c.n c.c] := by rw [← hW1]; exact heap_alloc_new wr _
      have HAP := Lib.hid (HA.out i c W1 wr hlt hc hIi hfW)
      have k0 := hC1.cell 0
      have k1 := hC1.cell 1
      have k2 := hC1.cell 2
      have k3 := hC1.cell 3
      simp at k0 k1 k2 k3
      go_wp2_with fail
      go_region_held3 (fun w' => w'.cell? ⟨wr.heap.size, 0, none⟩ = some (.int .i64 c.k) ∧ w'.cell? ⟨wr.heap.size, 1, none⟩ = some (.string c.s) ∧ w'.cell? ⟨wr.heap.size, 2, none⟩ = some (.string c.t) ∧ w'.cell? ⟨wr.heap.size, 3, none⟩ = some (.slice c.A c.n c.c))
        (first | exact ⟨j0, j1, j2, j3⟩ | go_keep)
        (first | (go_at_call 41; refine HAP.out.mono ?_; rintro e w2 ⟨rfl, hI2, hf2⟩; have hC2 : Cel w2 wr.heap.size 69 #[.int .i64 c.k, .string c.s, .string c.t, .slice c.A c.n c.c] := hC1.of (hf2.block _ hC1.lt (by omega)); have j0 : w2.cell? ⟨wr.heap.size, 0, none⟩ = some (.int .i64 c.k) := hC2.cell 0; have j1 : w2.cell? ⟨wr.heap.size, 1, none⟩ = some (.string c.s) := hC2.cell 1; have j2 : w2.cell? ⟨wr.heap.size, 2, none⟩ = some (.string c.t) := hC2.cell 2; have j3 : w2.cell? ⟨wr.heap.size, 3, none⟩ = some (.slice c.A c.n c.c) := hC2.cell 3))
      go_wp2
      go_roundw
      case rel => exact ⟨i + 1, by omega, by go_num, hI2⟩
      case measure => simp [intOf]; omega
    · obtain rfl : i = keep := by omega
      have g4 := (hD.cell 4).trans dc4
      obtain ⟨w5, hrun5, hg5, hrow5⟩ := run_clear_chg hrow 0
      have hpd : (Value.slice (some ⟨p, 0, none⟩) cs.length cap).ownBlock ≠ some d := row_ne hrow hD (by decide)
      have hD5 := hD.of (hg5.block d hD.lt (fun e => hpd e.symm))
      have g5 := (hD5.cell 4).trans dc4
      have f5 := hD5.fz 4
      have hr5 := hrow5 _ _ rfl
      go_wp2
      go_end0
      refine ⟨rfl, wr, ms, us, hIi, hD, hD5.set 4 _, own_far hr5 (grown_set' w5 d 4 _) (fun g e e' => hpd (by rw [← e'] at e; exact e)), ?_⟩
      exact ((Fr.grown hg5).mono (fun i h => .inl (.inr (by injection h with h; exact h.symm)))).trans ((Fr.set w5 d 4 _).mono (fun i h => .inl (.inl h)))

set_option maxHeartbeats 400000 in
theorem settle_nil (w : World) (d : Nat) (mn ms : Option Nat) (un us room fuse steps : Int) (off : Bool) (hD : Cel w d 61 (dc mn un ms us nilS room fuse steps off)) :
    Calls Try.prog 36 #[.pointer (some ⟨d, 0, none⟩), .int .i64 0] w fun e w' => e = .returned (.tuple #[]) ∧ Cel w' d 61 (dc mn un ms us nilS room fuse steps off) ∧ Fr (fun k => k = d) w w' := by
  have d4 := (hD.cell 4).trans dc4
  have f4 := hD.fz 4
  have hclr : (Builtin.clear_ #[59] 0 #[.slice none 0 0]).run Try.prog w = .ok (.tuple #[]) w := by simp [Builtin.clear_, run_underlying Try.underlying59]
  unfold nilS at d4
  go_enter Try.func36, Try.ntmps36
  go_wp2
  go_loopw [13] (fun i wr => i = .int .i64 0 ∧ wr = w) (fun _ _ => 0)
  case atStart => exact ⟨rfl, rfl⟩
  case round =>
    obtain ⟨rfl, rfl⟩ := hrel
    go_wp2
    go_end0
    exact ⟨rfl, hD.set 4 _, Fr.set wr d 4 _⟩

end Go.Proofs.Ytpljmoiemmaecaa
