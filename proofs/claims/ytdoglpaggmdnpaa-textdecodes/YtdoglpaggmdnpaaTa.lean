/- The contract of the reference's All. -/
import Derived.Test.YtdoglpaggmdnpaaTr
import Derived.Test.YtdoglpaggmdnpaaTs
namespace Go.Proofs.Ytdoglpaggmdnpaa
open Go.RowKit

theorem infoRune : (Try.prog.info? 21).map (fun i => (i.zero, i.size, i.bytes)) = some (some (.int .i32 0), 1, 4) := by kernel_rfl
theorem infoInt : (Try.prog.info? 3).map (fun i => (i.zero, i.size, i.bytes)) = some (some (.int .i64 0), 1, 8) := by kernel_rfl

theorem own_drewN {w : World} {base : Nat} {e : TypeId} {size n : Nat} {v : Value} {xs : List Value} (h : w.ownsRow base e size v n xs) (k : Nat) : (w.drewN k).ownsRow base e size v n xs := h
theorem rows_ne {w : World} {b1 b2 : Nat} {e1 e2 : TypeId} {s1 s2 n1 n2 : Nat} {v1 v2 : Value} {x1 x2 : List Value} (h1 : w.ownsRow b1 e1 s1 v1 n1 x1) (h2 : w.ownsRow b2 e2 s2 v2 n2 x2) (hne : e1 ≠ e2) : v2.ownBlock = none ∨ v2.ownBlock ≠ v1.ownBlock := by
  rcases h2.2 with ⟨rfl, _⟩ | ⟨g2, c2, u2, rfl, _, hg2, _⟩
  · left; rfl
  · right
    rcases h1.2 with ⟨rfl, _⟩ | ⟨g1, c1, u1, rfl, _, hg1, _⟩
    · simp [Value.ownBlock]
    · intro e
      simp only [Value.ownBlock, Option.some.injEq] at e
      subst e
      rw [hg1] at hg2
      cases hg2
      exact hne rfl

theorem one_at (b : List Int) (p bb off cap n : Nat) (w : World) (hp : p < b.length) (hn : b.length - p = n) (hc : ∀ i, i < b.length → w.cell? ⟨bb, off + i, none⟩ = some (.int .u8 (b[i]?.getD 0))) (hbd : ∀ i : Nat, 0 ≤ b[i]?.getD 0 ∧ b[i]?.getD 0 ≤ 255) (hl : b.length ≤ 1000000) :
    Calls Try.prog 26 #[.slice (some ⟨bb, off + p, none⟩) n cap] w (OnePost (Tx.one (b.drop p)) w) := by
  have hlen : (b.drop p).length = n := by simp; omega
  rw [← hlen]
  refine one_any (b.drop p) bb (off + p) cap w (by intro e; rw [e] at hlen; simp at hlen; omega) (fun i hi => ?_) (fun i => ?_) (by simp; omega)
  · rw [Nat.add_assoc, hc (p + i) (by simp at hi; omega)]
    simp
  · have := hbd (p + i)
    simpa using this

def AllPost (b : List Int) (w : World) (e : Ending) (w' : World) : Prop :=
  ∃ v1 v2, e = .returned (.tuple #[v1, v2]) ∧ w'.ownsRow w.heap.size 21 1 v1 (Tx.signs b).length ((Tx.signs b).map fun x => Value.int .i32 x.2) ∧ w'.ownsRow w.heap.size 3 1 v2 (Tx.signs b).length ((Tx.signs b).map fun x => Value.int .i64 (x.1 : Int)) ∧ Below w.heap.size w w'

set_option maxRecDepth 100000 in
set_option maxHeartbeats 2000000 in
theorem all_any (b : List Int) (A : Option Addr) (cap : Nat) (w : World) (hr : Rd w .u8 A b) (hcap : b.length ≤ cap) (hl : b.length ≤ 1000000) (hbd : ∀ i : Nat, 0 ≤ b[i]?.getD 0 ∧ b[i]?.getD 0 ≤ 255) :
    Calls Try.prog 11 #[.slice A b.length cap] w (AllPost b w) := by
  obtain ⟨i0, hi, hz0, hz1, hz2⟩ := info_parts infoRune
  obtain ⟨i1, hi1, hy0, hy1, hy2⟩ := info_parts infoInt
  go_enter Try.func11, Try.ntmps11
  go_wp2
  go_loopw [4, 5, 6] (fun v1 v2 i wr => ∃ (p : Nat) (pre : List (Nat × Int)), i = .int .i64 p ∧ p ≤ b.length ∧ Tx.signs b = pre ++ Tx.rest b p ∧ pre.length ≤ p ∧ wr.ownsRow w.heap.size 21 1 v1 pre.length (pre.map fun x => Value.int .i32 x.2) ∧
      wr.ownsRow w.heap.size 3 1 v2 pre.length (pre.map fun x => Value.int .i64 (x.1 : Int)) ∧ Below w.heap.size w wr)
    (fun _ _ i _ => b.length - (intOf i).toNat)
  case atStart =>
    refine ⟨0, [], rfl, by omega, rfl, by simp, ?_, ?_, ((Below.refl _ _).alloc (Nat.le_refl _) _).alloc (by simp) _⟩
    · exact (World.ownsRow_lit w #[] 0 (Nat.le_refl _) (by decide) rfl).alloc _
    · have := World.ownsRow_lit (base := w.heap.size) (e := 3) (size := 1) (w.alloc (.cells #[] 21)) #[] 0 (by simp) (by decide) rfl
      rw [World.size_alloc] at this
      exact this
  case round =>
    obtain ⟨p, pre, rfl, hp, hx, hpl, hr1, hr2, hB⟩ := hrel
    have HX := Lib.hid hx
    clear hx
    by_cases hlt : p < b.length
    · obtain ⟨bb, off, rfl, hbb, hcs⟩ := hr.pos (by omega)
      have hcs' : ∀ i, i < b.length → wr.cell? ⟨bb, off + i, none⟩ = some (.int .u8 (b[i]?.getD 0)) := fun i hi => (hB.cell (p := ⟨bb, off + i, none⟩) hbb).trans (hcs i hi)
      have C := one_at b p bb off (cap - p) (b.length - p) wr hlt rfl hcs' hbd hl
      have h1 := Tx.one_le b p hlt
      have HR := Lib.hid (Tx.rest_step b p hlt)
      obtain ⟨r, hrr⟩ : ∃ r, (Tx.one (b.drop p)).1 = r := ⟨_, rfl⟩
      obtain ⟨sz, hsz⟩ : ∃ sz, (Tx.one (b.drop p)).2 = sz := ⟨_, rfl⟩
      rw [hrr, hsz] at HR
      rw [hsz] at h1
      rw [show Tx.one (b.drop p) = (r, sz) from by rw [← hrr, ← hsz]] at C
      have HC := Lib.hid C
      obtain ⟨h2, h3⟩ := h1
      have hne : ¬ cap = p := by omega
      have hbz := hB.size
      clear C hcs hcs' hbd hrr hsz hr
      go_wp2_with (first
        | (go_at_call 26; refine HC.out.mono ?_; rintro e w1 ⟨rfl, nq, rfl⟩; have hr1' := own_drewN hr1 nq; have hr2' := own_drewN hr2 nq)
        | (at_builtin; refine wpList_append_own _ rfl _ _ 24 rfl w.heap.size 21 i0 (.int .i32 0) 1 4 Try.underlying24 hi hz0 hz1 hz2 rfl (by decide) _ _ _ rfl (hr1'.alloc _) ⟨wr.heap.size, 0, none⟩ 1 1 [.int .i32 r] rfl rfl (cell_one_new _ _ _) (by simp [Value.oneCell']) (by unfold maxLen; omega) (by omega) (by simp; omega) ?_; intro v1' w2 hown1 hgrow1 _)
        | (at_builtin; refine wpList_append_own _ rfl _ _ 25 rfl w.heap.size 3 i1 (.int .i64 0) 1 8 Try.underlying25 hi1 hy0 hy1 hy2 rfl (by decide) _ _ _ rfl (((hr2'.alloc _).kept hgrow1 (rows_ne hr1' hr2' (by decide))).alloc _) ⟨w2.heap.size, 0, none⟩ 1 1 [.int .i64 p] rfl rfl (cell_one_new _ _ _) (by simp [Value.oneCell']) (by unfold maxLen; omega) (by omega) (by have := hgrow1.size; simp at this ⊢; omega) ?_; intro v2' w3 hown2 hgrow2 _))
      have hr2w : w2.ownsRow w.heap.size 3 1 _ pre.length (pre.map fun x => Value.int .i64 (x.1 : Int)) := (hr2'.alloc (.cells #[.int .i32 r] 21)).kept hgrow1 (rows_ne hr1' hr2' (by decide))
      have hown1' := (hown1.alloc (.cells #[.int .i64 p] 3)).kept hgrow2 (rows_ne hr2w hown1 (by decide))
      have hz2 := hgrow1.size
      simp only [World.size_alloc] at hz2
      have hzn : (wr.drewN nq).heap.size = wr.heap.size := rfl
      have hB1 : Below w.heap.size w w2 := (((below_drewN hB nq).alloc (by omega) (.cells #[.int .i32 r] 21))).grown hgrow1 (by simp; omega) (fun k e => (hr1'.lt k e).1)
      have hB2 : Below w.heap.size w w3 := (hB1.alloc hB1.size (.cells #[.int .i64 p] 3)).grown hgrow2 (by have := hB1.size; simp; omega) (fun k e => (hr2w.lt k e).1)
      go_roundw
      case rel => exact ⟨p + sz, pre ++ [(p, r)], by go_num, h3, by rw [HX.out, HR.out]; simp, by simp; omega, by simpa using hown1', by simpa using hown2, hB2⟩
      case measure => simp [intOf]; omega
    · go_wp2
      go_ret2
      have hx : Tx.signs b = pre := by rw [HX.out, Tx.rest_end b p hlt, List.append_nil]
      exact ⟨_, _, rfl, by rw [hx]; exact hr1, by rw [hx]; exact hr2, hB⟩

end Go.Proofs.Ytdoglpaggmdnpaa
