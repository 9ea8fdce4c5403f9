/- strings.Builder with a frame: String turns nothing but its row's mark. -/
import Derived.Test.YtfkbjniodomdjaaHe
namespace Go.Proofs.Ytfkbjniodomdjaa
open Go.RowKit Go.Shelf

theorem frm_freeze (W : World) (p : Addr) (n : Nat) : Frm (fun k => k = p.block) W (W.freeze p n) := by
  unfold World.freeze
  split
  · exact Frm.refl _ _
  · refine ⟨rfl, rfl, rfl, by simp, fun k hk hn => ?_⟩
    simp only [Array.getElem?_modify]
    rw [if_neg (fun e => hn e.symm)]
set_option maxHeartbeats 2000000 in
set_option maxRecDepth 100000 in
theorem str_bld (b B : Nat) (v : Value) (l : List UInt8) (W : World) (h : Bld b B v (Lib.byteCells l) W) :
    Calls Try.prog 50 #[.pointer (some ⟨b, 0, none⟩)] W fun e W' => e = .returned (.string ⟨l.toArray⟩) ∧ Frm (fun k => v.ownBlock = some k) W W' := by
  have hlt := h.lt
  obtain ⟨⟨p, _, hbk⟩, hown, hne⟩ := h
  by_cases h0 : l = []
  · subst h0
    have key : Calls Try.prog 50 #[.pointer (some ⟨b, 0, none⟩)] W fun e w' => e = .returned (.string ⟨#[]⟩) ∧ Below W.heap.size W w' := by
      rcases hown.2 with ⟨rfl, _⟩ | ⟨g, cap, cur, rfl, hbg, hg, _⟩
      · exact Any.Builder_String_nil Try.kstring kext W.heap.size b p W hbk
      · by_cases hc0 : cap = 0
        · subst hc0
          exact Any.Builder_String_noroom Try.kstring kext W.heap.size b g p cur W (Nat.le_refl _) hbk hg
        · exact Any.Builder_String_room Try.kstring kext W.heap.size b g cap p W hc0 hbk
    refine key.mono ?_
    rintro e W' ⟨rfl, hb⟩
    exact ⟨rfl, Frm.below hb⟩
  · have hl0 : l.length ≠ 0 := by simpa using h0
    rw [Lib.byteCells_length] at hown
    obtain ⟨g, cap, cur, rfl, hg, hnc, hcm, hcs⟩ : ∃ g cap cur, v = .slice (some ⟨g, 0, none⟩) l.length cap ∧ W.heap[g]? = some (.cells cur 5 (0, 0)) ∧ l.length ≤ cap ∧ cap ≤ maxLen ∧ cur.size = cap * 1 := by
      rcases hown.2 with ⟨_, hz⟩ | ⟨g, cap, cur, hv, _, r1, r2, r3, r4, _⟩
      · exact absurd hz hl0
      · exact ⟨g, cap, cur, hv, r1, r2, r3, r4⟩
    have c1 : W.drew.cell? ⟨b, 1, none⟩ = some (.slice (some ⟨g, 0, none⟩) l.length cap) := by
      have : W.drew.heap[b]? = some (.cells #[p, .slice (some ⟨g, 0, none⟩) l.length cap] 91 (0, 0)) := hbk
      rw [Lib.cell_of_heap this]; rfl
    have hSD : (Builtin.unsafeSliceData_ #[89] 114 #[.slice (some ⟨g, 0, none⟩) l.length cap]).run Try.prog W.drew = .ok (.pointer (some ⟨g, 0, none⟩)) W.drew :=
      Lib.run_unsafeSliceData_row _ _ _ _ _ _ (by omega)
    have hUS : (Builtin.unsafeString_ #[114, 3] 9 #[.pointer (some ⟨g, 0, none⟩), .int .i64 l.length]).run Try.prog W.drew = .ok (.string ⟨l.toArray⟩) (W.drew.freeze ⟨g, 0, none⟩ l.length) := by
      refine Lib.run_unsafeString_row W.drew 114 3 9 5 Try.underlying114 (by kernel_rfl) g cur.size (by have hg' : W.drew.heap[g]? = some (.cells cur 5 (0, 0)) := hg; simp [World.shape?, hg']) l h0 (by omega) (by unfold maxLen at hcm; omega) ?_
      intro j x hx
      have := hown.cells (g := g) rfl j (.int .u8 x.toNat) (by simp [Lib.byteCells, hx])
      exact this
    have c0 : W.cell? ⟨b, 1, none⟩ = some (.slice (some ⟨g, 0, none⟩) l.length cap) := c1
    go_enter Try.func50, Try.ntmps50
    go_wp2
    go_region
    all_goals
      go_wp2
      go_ret
      refine ⟨rfl, ?_⟩
      exact (Frm.drewN _ W 1).trans ((frm_freeze W.drew ⟨g, 0, none⟩ l.length).mono (fun k e => by rw [e]; rfl))
end Go.Proofs.Ytfkbjniodomdjaa
