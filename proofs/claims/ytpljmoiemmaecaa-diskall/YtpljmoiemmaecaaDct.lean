/- The contract of Crash, where the next change is looked at. -/
import Derived.Test.YtpljmoiemmaecaaDcr
namespace Go.Proofs.Ytpljmoiemmaecaa
open Go.RowKit

theorem DInv.pvSome {w : World} {d B : Nat} {σ : Dv} (h : DInv w d B σ) (hl : 0 < σ.cs.length) : ∃ p cap, σ.pv = .slice (some ⟨p, 0, none⟩) σ.cs.length cap := by
  rcases h.row.2 with ⟨hpv, hcs⟩ | ⟨p, cap, cur, hpv, _⟩
  · omega
  · exact ⟨_, _, hpv⟩

set_option maxRecDepth 100000 in
set_option maxHeartbeats 1000000 in
theorem Crash_kind (w : World) (d B : Nat) (σ : Dv) (D : Nat → List Int) (keep torn : Int) (K : Nat) (h : DInv w d B σ) (hK : min (max keep 0) (σ.cs.length : Int) = (K : Int)) (hto : 0 < torn) (c : Ch) (hc : σ.cs[K]? = some c) (hno : c.k ≠ 0)
    (hD : ∀ i c, σ.cs[i]? = some c → σ.S (.pend i) = some (.slice c.A c.n c.c, D i))
    (hok : ∀ i c, i < K → σ.cs[i]? = some c → okC (runC σ.cs D (cont σ.S) σ.us i).1 c (D i) ∧ 0 ≤ (runC σ.cs D (cont σ.S) σ.us i).2 ∧ (runC σ.cs D (cont σ.S) σ.us i).2 ≤ 1000000000000) (hn : σ.ns + K < 1000000) :
    Calls Try.prog 22 #[.pointer (some ⟨d, 0, none⟩), .int .i64 keep, .int .i64 torn] w fun e w' => e = .returned (.tuple #[]) ∧ Crashed w d B σ D K w' := by
  have hlt : K < σ.cs.length := (List.getElem?_eq_some_iff.1 hc).1
  obtain ⟨p, cap, hpv⟩ := h.pvSome (by omega)
  have x0 : w.cell? ⟨p, K * 4 + 0, none⟩ = some (.int .i64 c.k) := by
    have hr := h.row
    rw [hpv] at hr
    rw [hr.cellAt (K * 4 + 0) (by omega), flat_at σ.cs K c 0 hc (by omega)]
    rfl
  simp only [Nat.add_zero] at x0
  have g4 := (h.cel.cell 4).trans dc4
  rw [hpv] at g4
  have HT := Lib.hid (settle_inv w d B σ K D h (by omega) hD hok (by omega))
  have tn : decide (0 < torn) = true := by simpa using hto
  have tk : decide ((K : Int) < (σ.cs.length : Int)) = true := by simpa using hlt
  have t0 : (c.k == 0) = false := by simpa using hno
  clear hD hok hno hto
  go_enter Try.func22, Try.ntmps22
  go_wp2_with fail
  refine HT.out.mono ?_
  rintro e w2 ⟨rfl, σ', hS⟩
  have hns : σ'.ns < 1000000 := by have := hS.ns; omega
  have HW := Lib.hid (hS.inv.twin_call hns)
  go_wp2_with fail
  refine HW.out.mono ?_
  rintro e w3 ⟨b, rfl, hge, hM, hf⟩
  have hI3 := hS.inv.keep hf
  have c0 := (hI3.cel.cell 0).trans dc0
  have c1 := (hI3.cel.cell 1).trans dc1
  have c6 := (hI3.cel.cell 6).trans dc6
  have c8 := (hI3.cel.cell 8).trans dc8
  have f0 := hI3.cel.fz 0
  have f1 := hI3.cel.fz 1
  have f6 := hI3.cel.fz 6
  have f8 := hI3.cel.fz 8
  go_wp2
  go_end0
  have hF := (((Fr.set w3 d 0 (.map (some b))).trans (Fr.set _ d 1 (.int .i64 σ'.us))).trans (Fr.set _ d 8 (.bool false))).trans (Fr.set _ d 6 (.int .i64 0))
  exact ⟨rfl, w2, σ', b, hS, hge, hS.inv.twin hge hM hf ((((hI3.cel.set 0 _).set 1 _).set 8 _).set 6 _) hF, (hf.mono (fun _ h => h.elim)).trans hF⟩


end Go.Proofs.Ytpljmoiemmaecaa
