/- The contract of change, whatever apply does. -/
import Derived.Test.YtpljmoiemmaecaaDf
import Derived.Deep.AppendLies
namespace Go.Proofs.Ytpljmoiemmaecaa
open Go.RowKit

theorem infoChg : (Try.prog.info? 69).map (fun i => (i.zero, i.size, i.bytes)) = some (some (.agg #[.int .i64 0, .string ⟨#[]⟩, .string ⟨#[]⟩, .slice none 0 0]), 4, 64) := by kernel_rfl

theorem row_ne {w : World} {B n d : Nat} {v : Value} {xs : List Value} {T : TypeId} {C : Array Value} (h : w.ownsRow B 69 4 v n xs) (hC : Cel w d T C) (hT : T ≠ 69) : v.ownBlock ≠ some d := by
  rcases h.2 with ⟨rfl, _⟩ | ⟨g, cap, cur, rfl, _, hh, _⟩
  · simp [Value.ownBlock]
  · intro e
    obtain rfl : g = d := by injection e
    have h' : w.heap[g]? = _ := hC
    rw [h'] at hh
    injection hh with hh
    injection hh with _ hh
    exact hT hh
theorem grown_set' (w : World) (g i : Nat) (v : Value) : w.grownBy (w.setCell ⟨g, i, none⟩ v) (some g) :=
  ⟨rfl, rfl, rfl, by simp [World.setCell], fun k _ hk => Below.heap_setCell w ⟨g, i, none⟩ v k (fun e => hk (by rw [e]))⟩
theorem own_fr {w w' : World} {base sz n : Nat} {e : TypeId} {v : Value} {xs : List Value} {S : Nat → Prop} (h : w.ownsRow base e sz v n xs) (hf : Fr S w w') (hne : ∀ g, v.ownBlock = some g → ¬ S g) : w'.ownsRow base e sz v n xs := by
  refine ⟨h.1, ?_⟩
  rcases h.2 with hn | ⟨g, cap, cur, rfl, hb, hgg, rest⟩
  · exact .inl hn
  · exact .inr ⟨g, cap, cur, rfl, hb, (hf.block g (Array.getElem?_eq_some_iff.1 hgg).1 (hne g rfl)).trans hgg, rest⟩
def chgCells (k : Int) (s t : ByteArray) (v : Value) : List Value := [.int .i64 k, .string s, .string t, v]

theorem step_append_chg {w : World} {ops : Array Oper} {o : Oper} {a : Act} {K : Act → World → Prop} {Q : Exit → Act → World → Prop} {E : Prop} (hgd : o.guard = none) (s x : Operand) (ho : o.op = .call { callee := .builtin .append, args := #[s, x], argTypes := #[59, 59] })
    (B : Nat) (i0 : TypeInfo) (hi : Try.prog.info? 69 = some i0) (hz0 : i0.zero = some (.agg #[.int .i64 0, .string ⟨#[]⟩, .string ⟨#[]⟩, .slice none 0 0])) (hz1 : i0.size = 4) (hz2 : i0.bytes = 64)
    (v : Value) (n : Nat) (xs : List Value) (hs : a.eval s = v) (hown : w.ownsRow B 69 4 v n xs) (ad : Addr) (news : List Value) (hl : news.length = 4) (hx : a.eval x = .slice (some ad) 1 1) (hnews : ∀ j u, news[j]? = some u → w.cell? (ad.add j) = some u) (h1 : ∀ u ∈ news, u.oneCell' = true)
    (hn : n ≤ 1000000) (hB : B ≤ w.heap.size)
    (h : ∀ v' w', w'.ownsRow B 69 4 v' (n + 1) (xs ++ news) → w.grownBy w' v.ownBlock → (v'.ownBlock = v.ownBlock ∨ v'.ownBlock = some w.heap.size) → K (a.put o.dst v') w') : if Region.wanted o (yielded ops a.tmps) = true then Oper.wp Try.prog o a w K Q else E := by
  have hw : Region.wanted o (yielded ops a.tmps) = true := by simp [Region.wanted, hgd]
  rw [if_pos hw]
  obtain ⟨v', w', hrun, h2, h3, _, h5⟩ := run_append_own_at (P := Try.prog) w B 59 o.type 69 i0 _ 4 64 Try.underlying59 hi hz0 hz1 hz2 rfl (by decide) v n xs hown ad 1 1 news (by rw [hl]) hnews h1 (by unfold maxLen; omega) (by omega) hB
  unfold Oper.wp execOp
  simp only [ho, resolve, invoke, builtin, Sem.run_bind, Sem.run_pure, Result.andThen_ok, List.map_toArray, List.map_cons, List.map_nil, hs, hx, hrun]
  exact h v' w' h2 h3 h5

set_option maxRecDepth 100000 in
set_option maxHeartbeats 1000000 in
theorem change_gen (w : World) (d B : Nat) (k : Int) (s t : ByteArray) (A : Option Addr) (nn cc : Nat) (Q : World → Prop) (ms : Option Nat) (un us room fuse steps : Int) (pv : Value) (off : Bool) (n : Nat) (xs : List Value)
    (hap : ∀ w1, Fr (fun _ => False) w w1 → Calls Try.prog 41 #[.pointer (some ⟨d, 0, none⟩), chg k s t (.slice A nn cc)] w1 fun e w2 => e = .returned (.tuple #[]) ∧ Q w2 ∧ Fr (fun k => k < w.heap.size) w1 w2)
    (hQ : ∀ w2, Q w2 → ∃ mn, Cel w2 d 61 (dc mn un ms us pv room fuse steps off) ∧ w2.ownsRow B 69 4 pv n xs) (hn : n ≤ 1000000) (hB : B ≤ w.heap.size)
    (code fuse' steps' : Int) (off' : Bool)
    (hst : ∀ w3 pv' mn, Cel w3 d 61 (dc mn un ms us pv' room fuse steps off) → Calls Try.prog 35 #[.pointer (some ⟨d, 0, none⟩)] w3 fun e w4 => e = .returned (.int .i64 code) ∧ Cel w4 d 61 (dc mn un ms us pv' room fuse' steps' off') ∧ Fr (fun k => k = d) w3 w4) :
    Calls Try.prog 33 #[.pointer (some ⟨d, 0, none⟩), chg k s t (.slice A nn cc)] w fun e w' => e = .returned (.int .i64 code) ∧ ∃ w2 pv' mn, Q w2 ∧ Cel w2 d 61 (dc mn un ms us pv room fuse steps off) ∧ w2.ownsRow B 69 4 pv n xs ∧ Cel w' d 61 (dc mn un ms us pv' room fuse' steps' off') ∧ w'.ownsRow B 69 4 pv' (n + 1) (xs ++ chgCells k s t (.slice A nn cc)) ∧
      (pv'.ownBlock = pv.ownBlock ∨ ∃ g, pv'.ownBlock = some g ∧ w2.heap.size ≤ g) ∧ Fr (fun k => k = d ∨ pv.ownBlock = some k) w2 w' ∧ w.heap.size ≤ w2.heap.size := by
  obtain ⟨w1, hw1⟩ : ∃ w1, (w.alloc (.cells #[.int .i64 k, .string s, .string t, .slice A nn cc] 69)).drew = w1 := ⟨_, rfl⟩
  have hf1 : Fr (fun _ => False) w w1 := by rw [← hw1]; exact (Fr.alloc w _ _).trans (Fr.drew _ _)
  have hC1 : Cel w1 w.heap.size 69 #[.int .i64 k, .string s, .string t, .slice A nn cc] := by rw [← hw1]; exact heap_alloc_new w _
  have HAP := Lib.hid (hap w1 hf1)
  have HQ := Lib.hid hQ
  have HST := Lib.hid hst
  have k0 := hC1.cell 0
  have k1 := hC1.cell 1
  have k2 := hC1.cell 2
  have k3 := hC1.cell 3
  simp at k0 k1 k2 k3
  clear hap hQ hst
  unfold chg at HAP ⊢
  go_enter Try.func33, Try.ntmps33
  go_wp2_with fail
  go_region_held3 (fun w' => w'.cell? ⟨w.heap.size, 0, none⟩ = some (.int .i64 k) ∧ w'.cell? ⟨w.heap.size, 1, none⟩ = some (.string s) ∧ w'.cell? ⟨w.heap.size, 2, none⟩ = some (.string t) ∧ w'.cell? ⟨w.heap.size, 3, none⟩ = some (.slice A nn cc))
    (first | exact ⟨j0, j1, j2, j3⟩ | go_keep)
    (first | (go_at_call 41; refine HAP.out.mono ?_; rintro e w2 ⟨rfl, hq2, hf2⟩; have hC2 : Cel w2 w.heap.size 69 #[.int .i64 k, .string s, .string t, .slice A nn cc] := hC1.of (hf2.block _ hC1.lt (by omega)); have j0 : w2.cell? ⟨w.heap.size, 0, none⟩ = some (.int .i64 k) := hC2.cell 0; have j1 : w2.cell? ⟨w.heap.size, 1, none⟩ = some (.string s) := hC2.cell 1; have j2 : w2.cell? ⟨w.heap.size, 2, none⟩ = some (.string t) := hC2.cell 2; have j3 : w2.cell? ⟨w.heap.size, 3, none⟩ = some (.slice A nn cc) := hC2.cell 3))
  obtain ⟨mn, hD2, hrow2⟩ := HQ.out w2 hq2
  have d4 := (hD2.cell 4).trans dc4
  have e4 := hD2.fz 4
  clear k0 k1 k2 k3
  have hpd : pv.ownBlock ≠ some d := row_ne hrow2 hD2 (by decide)
  have hnb := hD2.lt
  obtain ⟨i0, hi, hz0, hz1, hz2⟩ := info_parts infoChg
  have hrd2 : w2.drew.ownsRow B 69 4 pv n xs := hrow2
  have hB2 : B ≤ w2.heap.size := Nat.le_trans hB (Nat.le_trans hf1.size hf2.size)
  go_wp2_with fail
  go_region_law (first
    | (refine step_append_chg (by rfl) _ _ (by rfl) B i0 hi hz0 hz1 hz2 pv n xs (by rfl) (hrd2.alloc _) ⟨w2.heap.size, 0, none⟩ (chgCells k s t (.slice A nn cc)) rfl (by rfl) (cells_new w2.drew _ _) (by simp [chgCells, Value.oneCell']) hn (by simp; omega) ?_; intro v4 w4 hown4 hg4 hat4; have hD4 : Cel w4 d 61 (dc mn un ms us pv room fuse steps off) := hD2.of ((hg4.block d (by simp; omega) (fun e => hpd e.symm)).trans (Below.heap_alloc w2.drew _ d hnb)); have d44 := (hD4.cell 4).trans dc4; have e44 := hD4.fz 4; obtain ⟨g4, c4, rfl, _, _⟩ := hown4.form (by omega)))
  all_goals
    have hD5 : Cel (w4.setCell ⟨d, 4, none⟩ (.slice (some ⟨g4, 0, none⟩) (n + 1) c4)) d 61 (dc mn un ms us (.slice (some ⟨g4, 0, none⟩) (n + 1) c4) room fuse steps off) := hD4.set 4 _
    go_wp2_with (go_at_call 35; refine (HST.out _ _ _ hD5).mono ?_; rintro e w6 ⟨rfl, hD6, hf6⟩)
    go_ret
    have hgd : (Value.slice (some ⟨g4, 0, none⟩) (n + 1) c4).ownBlock ≠ some d := row_ne hown4 hD4 (by decide)
    have hrow6 : w6.ownsRow B 69 4 (.slice (some ⟨g4, 0, none⟩) (n + 1) c4) (n + 1) (xs ++ chgCells k s t (.slice A nn cc)) := by
      have h5 := own_far hown4 (grown_set' w4 d 4 (.slice (some ⟨g4, 0, none⟩) (n + 1) c4)) (fun g e e' => hgd (by rw [e, ← e']))
      exact own_fr h5 hf6 (fun g e e' => hgd (by rw [e, e']))
    refine ⟨rfl, w2, _, mn, hq2, hD2, hrow2, hD6, hrow6, ?_, ?_, Nat.le_trans hf1.size hf2.size⟩
    · rcases hat4 with h | h
      · exact .inl h
      · exact .inr ⟨_, h, by simp⟩
    · have f4 : Fr (fun k => k = d ∨ pv.ownBlock = some k) w2 w4 := ((Fr.alloc w2 _ _).trans (Fr.drew _ _)).trans ((Fr.grown hg4).mono (fun i h => .inl (.inr h)))
      exact (f4.trans ((Fr.set w4 d 4 _).mono (fun i h => .inl (.inl h)))).trans (hf6.mono (fun i h => .inl (.inl h)))

end Go.Proofs.Ytpljmoiemmaecaa
