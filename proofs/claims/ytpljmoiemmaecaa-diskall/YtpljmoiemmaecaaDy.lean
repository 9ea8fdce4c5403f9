/- The contracts of Sync. -/
import Derived.Test.YtpljmoiemmaecaaDq
namespace Go.Proofs.Ytpljmoiemmaecaa
open Go.RowKit

theorem Settled.lift {w w1 w' : World} {d B keep : Nat} {σ σ' : Dv} {D : Nat → List Int} (h : Settled w1 d B σ D keep w' σ') (hf : Fr (fun k => k = d) w w1) : Settled w d B σ D keep w' σ' :=
  ⟨h.inv, (hf.mono (fun _ hi => .inl (.inl hi))).trans h.fr, fun k hk => (h.ft k hk).imp id (fun hk => Nat.le_trans hf.size hk), h.con, h.us, h.ns, h.now, h.rest⟩

theorem Sync_off (w : World) (d B : Nat) (σ : Dv) (h : DInv w d B σ) (hoff : σ.off = true) :
    Calls Try.prog 18 #[.pointer (some ⟨d, 0, none⟩)] w fun e w' => e = .returned (.int .i64 10) ∧ w = w' := by
  have hrdy : Calls Try.prog 31 #[.pointer (some ⟨d, 0, none⟩), .slice none 0 0] w fun e w' => e = .returned (.int .i64 10) ∧ w = w' := by
    have := ready_any σ.mn σ.ms σ.un σ.us σ.room σ.fuse σ.steps σ.pv σ.off w d [] none 0 h.cel (.inl rfl) (by simp) (fun x hx => by simp at hx)
    simp only [readyR, List.all_nil, hoff, if_true] at this
    exact this
  have HR := Lib.hid hrdy
  clear hrdy
  go_enter Try.func18, Try.ntmps18
  go_wp2_with fail
  refine HR.out.mono ?_
  rintro e w' ⟨rfl, rfl⟩
  go_wp2
  go_ret
  exact ⟨rfl, rfl⟩

theorem Sync_burn (w : World) (d B : Nat) (σ : Dv) (h : DInv w d B σ) (hoff : σ.off = false) (hfu : σ.fuse = 1) :
    Calls Try.prog 18 #[.pointer (some ⟨d, 0, none⟩)] w fun e w' => e = .returned (.int .i64 10) ∧ DInv w' d B { σ with fuse := 0, steps := σ.steps, off := true } ∧ Fr (fun k => k = d) w w' := by
  have hrdy : Calls Try.prog 31 #[.pointer (some ⟨d, 0, none⟩), .slice none 0 0] w fun e w' => e = .returned (.int .i64 0) ∧ w = w' := by
    have := ready_any σ.mn σ.ms σ.un σ.us σ.room σ.fuse σ.steps σ.pv σ.off w d [] none 0 h.cel (.inl rfl) (by simp) (fun x hx => by simp at hx)
    simp only [readyR, List.all_nil, hoff, if_true] at this
    exact this
  have hC := h.cel
  unfold Dv.cells at hC
  rw [hfu] at hC
  have HR := Lib.hid hrdy
  have HS := Lib.hid (step_burn (h := hC))
  clear hrdy
  go_enter Try.func18, Try.ntmps18
  go_wp2_with fail
  refine HR.out.mono ?_
  rintro e w' ⟨rfl, rfl⟩
  go_wp2_with fail
  refine HS.out.mono ?_
  rintro e w' ⟨rfl, hC', hf⟩
  go_wp2
  go_ret
  exact ⟨rfl, h.turn hC' hf, hf⟩

set_option maxHeartbeats 400000 in
theorem Sync_done (w : World) (d B : Nat) (σ : Dv) (D : Nat → List Int) (h : DInv w d B σ) (hoff : σ.off = false) (hfu : σ.fuse ≠ 1) (hf2 : 0 ≤ σ.fuse ∧ σ.fuse ≤ 9223372036854775807) (hs3 : 0 ≤ σ.steps ∧ σ.steps ≤ 1000000000)
    (hD : ∀ i c, σ.cs[i]? = some c → σ.S (.pend i) = some (.slice c.A c.n c.c, D i))
    (hok : ∀ i c, i < σ.cs.length → σ.cs[i]? = some c → okC (runC σ.cs D (cont σ.S) σ.us i).1 c (D i) ∧ 0 ≤ (runC σ.cs D (cont σ.S) σ.us i).2 ∧ (runC σ.cs D (cont σ.S) σ.us i).2 ≤ 1000000000000) (hn : σ.ns + σ.cs.length ≤ 1000000) :
    Calls Try.prog 18 #[.pointer (some ⟨d, 0, none⟩)] w fun e w' => e = .returned (.int .i64 0) ∧ ∃ σ', Settled w d B { σ with fuse := max (σ.fuse - 1) 0, steps := σ.steps + 1 } D σ.cs.length w' σ' := by
  have hrdy : Calls Try.prog 31 #[.pointer (some ⟨d, 0, none⟩), .slice none 0 0] w fun e w' => e = .returned (.int .i64 0) ∧ w = w' := by
    have := ready_any σ.mn σ.ms σ.un σ.us σ.room σ.fuse σ.steps σ.pv σ.off w d [] none 0 h.cel (.inl rfl) (by simp) (fun x hx => by simp at hx)
    simp only [readyR, List.all_nil, hoff, if_true] at this
    exact this
  have HR := Lib.hid hrdy
  have HS := Lib.hid (step_ok (h := h.cel) (h1 := hfu) (h2 := hf2) (h3 := hs3))
  have HO := Lib.hid hok
  have HD := Lib.hid hD
  clear hrdy hfu hf2 hs3 hok hD
  go_enter Try.func18, Try.ntmps18
  go_wp2_with fail
  refine HR.out.mono ?_
  rintro e w' ⟨rfl, rfl⟩
  go_wp2_with fail
  refine HS.out.mono ?_
  rintro e w1 ⟨rfl, hC', hf⟩
  have h1 := h.turn hC' hf
  have HT := Lib.hid (settle_inv w1 d B _ σ.cs.length D h1 (Nat.le_refl _) HD.out HO.out hn)
  obtain ⟨A, cap, hpv⟩ : ∃ A cap, σ.pv = .slice A σ.cs.length cap := by
    rcases h.row.2 with ⟨hpv, hcs⟩ | ⟨p, cap, cur, hpv, _⟩
    · exact ⟨none, 0, by rw [hpv, hcs]⟩
    · exact ⟨_, _, hpv⟩
  have g4 := (hC'.cell 4).trans dc4
  rw [hpv] at g4
  go_wp2_with fail
  refine HT.out.mono ?_
  rintro e w' ⟨rfl, σ', hS⟩
  have hS' := hS.lift hf
  clear hS
  go_wp2
  go_ret
  exact ⟨rfl, σ', hS'⟩

end Go.Proofs.Ytpljmoiemmaecaa
