/- The contract of Crash, where the next change is a write and torn. -/
import Derived.Test.YtpljmoiemmaecaaDct
namespace Go.Proofs.Ytpljmoiemmaecaa
open Go.RowKit

/-- the data, one of them cut; the disk so -/
def cutD (D : Nat → List Int) (K m : Nat) : Nat → List Int := fun i => if i = K then (D K).take m else D i
def cutV (σ : Dv) (K : Nat) (c : Ch) (D : Nat → List Int) (m : Nat) : Dv := { σ with S := upd σ.S (.pend K) (some (.slice c.A m c.c, (D K).take m)), cs := σ.cs.set K { c with n := m } }

set_option maxRecDepth 100000 in
set_option maxHeartbeats 1000000 in
theorem Crash_torn (w : World) (d B : Nat) (σ : Dv) (D : Nat → List Int) (keep torn : Int) (K : Nat) (h : DInv w d B σ) (hK : min (max keep 0) (σ.cs.length : Int) = (K : Int)) (hto : 0 < torn) (c : Ch) (p cap : Nat) (hpv : σ.pv = .slice (some ⟨p, 0, none⟩) σ.cs.length cap) (hc : σ.cs[K]? = some c) (hno : c.k = 0) (m : Nat) (hm : min torn ((D K).length : Int) = (m : Int))
    (hD : ∀ i c, σ.cs[i]? = some c → σ.S (.pend i) = some (.slice c.A c.n c.c, D i))
    (hok : ∀ i c', i < K + 1 → (σ.cs.set K { c with n := m })[i]? = some c' → okC (runC (σ.cs.set K { c with n := m }) (cutD D K m) (cont σ.S) σ.us i).1 c' (cutD D K m i) ∧ 0 ≤ (runC (σ.cs.set K { c with n := m }) (cutD D K m) (cont σ.S) σ.us i).2 ∧ (runC (σ.cs.set K { c with n := m }) (cutD D K m) (cont σ.S) σ.us i).2 ≤ 1000000000000) (hn : σ.ns + (K + 1) < 1000000) :
    Calls Try.prog 22 #[.pointer (some ⟨d, 0, none⟩), .int .i64 keep, .int .i64 torn] w fun e w' => e = .returned (.tuple #[]) ∧ ∃ W1, Fr (fun k => k = p) w W1 ∧ DInv W1 d B (cutV σ K c D m) ∧ Crashed W1 d B (cutV σ K c D m) (cutD D K m) (K + 1) w' := by
  have hlt : K < σ.cs.length := (List.getElem?_eq_some_iff.1 hc).1
  have x0 : w.cell? ⟨p, K * 4 + 0, none⟩ = some (.int .i64 c.k) := by
    have hr := h.row
    rw [hpv] at hr
    rw [hr.cellAt (K * 4 + 0) (by omega), flat_at σ.cs K c 0 hc (by omega)]
    rfl
  simp only [Nat.add_zero] at x0
  have x3 : w.cell? ⟨p, K * 4 + 3, none⟩ = some (.slice c.A c.n c.c) := by
    have hr := h.row
    rw [hpv] at hr
    rw [hr.cellAt (K * 4 + 3) (by omega), flat_at σ.cs K c 3 hc (by omega)]
    rfl
  have f3 : w.frozen? ⟨p, K * 4 + 3, none⟩ = false := by
    have hr := h.row
    rw [hpv] at hr
    exact hr.frozenAt _
  have hcn : c.n = (D K).length := by
    obtain ⟨l', e1, e2⟩ := h.pend K c hc
    rw [hD K c hc] at e1
    cases e1
    exact e2
  rw [hcn] at x3
  rw [hno] at x0
  have hml : m ≤ (D K).length := by omega
  have h1 := h.cut hpv hc (hD K c hc) hml
  obtain ⟨_, hlc, _⟩ := (h.fam.rd _ _ _ (hD K c hc)).le _ _ _ rfl
  have hmc : m ≤ c.c := by omega
  have g4 := (h.cel.cell 4).trans dc4
  rw [hpv] at g4
  have hD1 : ∀ i c', (σ.cs.set K { c with n := m })[i]? = some c' → upd σ.S (.pend K) (some (.slice c.A m c.c, (D K).take m)) (.pend i) = some (.slice c'.A c'.n c'.c, cutD D K m i) := by
    intro i c' hi
    unfold cutD
    by_cases hiK : K = i
    · subst hiK
      rw [List.getElem?_set_self hlt] at hi
      cases hi
      rw [upd_same, if_pos rfl]
    · rw [List.getElem?_set_ne hiK] at hi
      rw [upd_other _ _ (by simp; omega), if_neg (fun e => hiK e.symm)]
      exact hD i c' hi
  have hcont : cont (upd σ.S (.pend K) (some (.slice c.A m c.c, (D K).take m))) = cont σ.S := by
    funext x
    unfold cont
    rw [upd_other _ _ (by simp)]
  obtain ⟨W, hW⟩ : ∃ W, w.setCell ⟨p, K * 4 + 3, none⟩ (.slice c.A m c.c) = W := ⟨_, rfl⟩
  have hfW : Fr (fun k => k = p) w W.drew := by rw [← hW]; exact (Fr.set w p _ _).trans (Fr.drew _ _)
  rw [hW] at h1
  have h2 : DInv W.drew d B (cutV σ K c D m) := h1.keep (Fr.drew _ _)
  have hT := (settle_inv W.drew d B (cutV σ K c D m) (K + 1) (cutD D K m) h2 (by show K + 1 ≤ (σ.cs.set K { c with n := m }).length; rw [List.length_set]; omega) hD1 (by show ∀ i c', i < K + 1 → (σ.cs.set K { c with n := m })[i]? = some c' → okC (runC (σ.cs.set K { c with n := m }) (cutD D K m) (cont (upd σ.S (.pend K) (some (.slice c.A m c.c, (D K).take m)))) σ.us i).1 c' (cutD D K m i) ∧ _; rw [hcont]; exact hok) (by show σ.ns + (K + 1) ≤ 1000000; omega))
  rw [Int.natCast_add, Int.natCast_one] at hT
  have HT := Lib.hid hT
  have tn : decide (0 < torn) = true := by simpa using hto
  have tk : decide ((K : Int) < (σ.cs.length : Int)) = true := by simpa using hlt
  clear hD hok hno hto hD1 hcont h1 hT
  go_enter Try.func22, Try.ntmps22
  go_wp2_with fail
  go_region_with fail
  all_goals
    go_wp2_with fail
    refine HT.out.mono ?_
    rintro e w2 ⟨rfl, σ', hS⟩
    have hns : σ'.ns < 1000000 := by
      have h5 := hS.ns
      have h6 : (cutV σ K c D m).ns = σ.ns := rfl
      omega
    have HW := Lib.hid (hS.inv.twin_call hns)
    go_wp2_with fail
    refine HW.out.mono ?_
    rintro e w3 ⟨b, rfl, hge, hM, hf⟩
    have hI3 := hS.inv.keep hf
    have c0 := (hI3.cel.cell 0).trans dc0
    have c1 := (hI3.cel.cell 1).trans dc1
    have c6 := (hI3.cel.cell 6).trans dc6
    have c8 := (hI3.cel.cell 8).trans dc8
    have f0 := hI3.cel.fz 0
    have f1 := hI3.cel.fz 1
    have f6 := hI3.cel.fz 6
    have f8 := hI3.cel.fz 8
    go_wp2
    go_end0
    have hF := (((Fr.set w3 d 0 (.map (some b))).trans (Fr.set _ d 1 (.int .i64 σ'.us))).trans (Fr.set _ d 8 (.bool false))).trans (Fr.set _ d 6 (.int .i64 0))
    exact ⟨rfl, W.drew, hfW, h2, w2, σ', b, hS, hge, hS.inv.twin hge hM hf ((((hI3.cel.set 0 _).set 1 _).set 8 _).set 6 _) hF, (hf.mono (fun _ h => h.elim)).trans hF⟩

end Go.Proofs.Ytpljmoiemmaecaa
