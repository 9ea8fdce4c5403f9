/- The contract of Crash. -/
import Derived.Test.YtpljmoiemmaecaaDz
namespace Go.Proofs.Ytpljmoiemmaecaa
open Go.RowKit

theorem DInv.pvForm {w : World} {d B : Nat} {σ : Dv} (h : DInv w d B σ) : ∃ A cap, σ.pv = .slice A σ.cs.length cap := by
  rcases h.row.2 with ⟨hpv, hcs⟩ | ⟨p, cap, cur, hpv, _⟩
  · exact ⟨none, 0, by rw [hpv, hcs]⟩
  · exact ⟨_, _, hpv⟩

theorem DInv.twin_call {w : World} {d B : Nat} {σ : Dv} (h : DInv w d B σ) (hn : σ.ns < 1000000) : Calls Try.prog 37 #[.pointer (some ⟨d, 2, none⟩)] w (Twinned w (vsafe σ.S) σ.ns σ.us) := by
  refine twin_any w d 2 61 σ.cells σ.ms σ.ns (vsafe σ.S) σ.us h.cel rfl rfl h.fs hn (fun s A k c e => ?_)
  obtain ⟨l, hl⟩ : ∃ l, σ.S (.safe s) = some (.slice A k c, l) := by
    unfold vsafe at e
    cases hS : σ.S (.safe s) with
    | none => rw [hS] at e; cases e
    | some x => rw [hS] at e; obtain ⟨v, l⟩ := x; cases e; exact ⟨l, rfl⟩
  rcases h.fam.rd _ _ _ hl with ⟨e, _⟩ | ⟨g, cap, cur, e, _, h2, _, h4, _⟩
  · unfold nilS at e
    cases e
    exact ⟨Nat.le_refl _, Nat.zero_le _, fun _ => rfl⟩
  · cases e
    exact ⟨h2, h4, fun e => by cases e⟩

/-- a disk behind a crash: what settled is safe and now -/
def Crashed (w : World) (d B : Nat) (σ : Dv) (D : Nat → List Int) (K : Nat) (w' : World) : Prop :=
  ∃ w2 σ' b, Settled w d B σ D K w2 σ' ∧ w2.heap.size ≤ b ∧ DInv w' d B { σ' with S := famTwin σ'.S, mn := some b, nn := σ'.ns, un := σ'.us, fuse := 0, off := false } ∧ Fr (fun k => k = d) w2 w'

set_option maxRecDepth 100000 in
set_option maxHeartbeats 1000000 in
theorem Crash_plain (w : World) (d B : Nat) (σ : Dv) (D : Nat → List Int) (keep torn : Int) (K : Nat) (h : DInv w d B σ) (hK : min (max keep 0) (σ.cs.length : Int) = (K : Int)) (hno : torn ≤ 0)
    (hD : ∀ i c, σ.cs[i]? = some c → σ.S (.pend i) = some (.slice c.A c.n c.c, D i))
    (hok : ∀ i c, i < K → σ.cs[i]? = some c → okC (runC σ.cs D (cont σ.S) σ.us i).1 c (D i) ∧ 0 ≤ (runC σ.cs D (cont σ.S) σ.us i).2 ∧ (runC σ.cs D (cont σ.S) σ.us i).2 ≤ 1000000000000) (hn : σ.ns + K < 1000000) :
    Calls Try.prog 22 #[.pointer (some ⟨d, 0, none⟩), .int .i64 keep, .int .i64 torn] w fun e w' => e = .returned (.tuple #[]) ∧ Crashed w d B σ D K w' := by
  obtain ⟨A, cap, hpv⟩ := h.pvForm
  have g4 := (h.cel.cell 4).trans dc4
  rw [hpv] at g4
  have HT := Lib.hid (settle_inv w d B σ K D h (by omega) hD hok (by omega))
  have HK := Lib.hid hK
  have tn : decide (0 < torn) = false := by simpa using hno
  clear hD hok hK hno
  go_enter Try.func22, Try.ntmps22
  go_wp2_with fail
  rw [HK.out]
  refine HT.out.mono ?_
  rintro e w2 ⟨rfl, σ', hS⟩
  have hns : σ'.ns < 1000000 := by have := hS.ns; omega
  have HW := Lib.hid (hS.inv.twin_call hns)
  go_wp2_with fail
  refine HW.out.mono ?_
  rintro e w3 ⟨b, rfl, hge, hM, hf⟩
  have hI3 := hS.inv.keep hf
  have c0 := (hI3.cel.cell 0).trans dc0
  have c1 := (hI3.cel.cell 1).trans dc1
  have c6 := (hI3.cel.cell 6).trans dc6
  have c8 := (hI3.cel.cell 8).trans dc8
  have f0 := hI3.cel.fz 0
  have f1 := hI3.cel.fz 1
  have f6 := hI3.cel.fz 6
  have f8 := hI3.cel.fz 8
  go_wp2
  go_end0
  have hF := (((Fr.set w3 d 0 (.map (some b))).trans (Fr.set _ d 1 (.int .i64 σ'.us))).trans (Fr.set _ d 8 (.bool false))).trans (Fr.set _ d 6 (.int .i64 0))
  exact ⟨rfl, w2, σ', b, hS, hge, hS.inv.twin hge hM hf ((((hI3.cel.set 0 _).set 1 _).set 8 _).set 6 _) hF, (hf.mono (fun _ h => h.elim)).trans hF⟩

set_option maxRecDepth 100000 in
set_option maxHeartbeats 1000000 in
theorem Crash_full (w : World) (d B : Nat) (σ : Dv) (D : Nat → List Int) (keep torn : Int) (K : Nat) (h : DInv w d B σ) (hK : min (max keep 0) (σ.cs.length : Int) = (K : Int)) (hto : 0 < torn) (hno : K = σ.cs.length)
    (hD : ∀ i c, σ.cs[i]? = some c → σ.S (.pend i) = some (.slice c.A c.n c.c, D i))
    (hok : ∀ i c, i < K → σ.cs[i]? = some c → okC (runC σ.cs D (cont σ.S) σ.us i).1 c (D i) ∧ 0 ≤ (runC σ.cs D (cont σ.S) σ.us i).2 ∧ (runC σ.cs D (cont σ.S) σ.us i).2 ≤ 1000000000000) (hn : σ.ns + K < 1000000) :
    Calls Try.prog 22 #[.pointer (some ⟨d, 0, none⟩), .int .i64 keep, .int .i64 torn] w fun e w' => e = .returned (.tuple #[]) ∧ Crashed w d B σ D K w' := by
  obtain ⟨A, cap, hpv⟩ := h.pvForm
  have g4 := (h.cel.cell 4).trans dc4
  rw [hpv] at g4
  have HT := Lib.hid (settle_inv w d B σ K D h (by omega) hD hok (by omega))
  have HK := Lib.hid hK
  have tn : decide (0 < torn) = true := by simpa using hto
  have tk : decide (min (max keep 0) (σ.cs.length : Int) < (σ.cs.length : Int)) = false := by rw [hK, hno]; simp
  clear hD hok hK hno hto
  go_enter Try.func22, Try.ntmps22
  go_wp2_with fail
  rw [HK.out]
  refine HT.out.mono ?_
  rintro e w2 ⟨rfl, σ', hS⟩
  have hns : σ'.ns < 1000000 := by have := hS.ns; omega
  have HW := Lib.hid (hS.inv.twin_call hns)
  go_wp2_with fail
  refine HW.out.mono ?_
  rintro e w3 ⟨b, rfl, hge, hM, hf⟩
  have hI3 := hS.inv.keep hf
  have c0 := (hI3.cel.cell 0).trans dc0
  have c1 := (hI3.cel.cell 1).trans dc1
  have c6 := (hI3.cel.cell 6).trans dc6
  have c8 := (hI3.cel.cell 8).trans dc8
  have f0 := hI3.cel.fz 0
  have f1 := hI3.cel.fz 1
  have f6 := hI3.cel.fz 6
  have f8 := hI3.cel.fz 8
  go_wp2
  go_end0
  have hF := (((Fr.set w3 d 0 (.map (some b))).trans (Fr.set _ d 1 (.int .i64 σ'.us))).trans (Fr.set _ d 8 (.bool false))).trans (Fr.set _ d 6 (.int .i64 0))
  exact ⟨rfl, w2, σ', b, hS, hge, hS.inv.twin hge hM hf ((((hI3.cel.set 0 _).set 1 _).set 8 _).set 6 _) hF, (hf.mono (fun _ h => h.elim)).trans hF⟩

end Go.Proofs.Ytpljmoiemmaecaa
