/- strings.Builder with a frame: WriteString turns its block and its row, nothing else. -/
import Derived.Test.YtfkbjniodomdjaaKb
import Derived.Test.YtfkbjniodomdjaaFm
import Derived.Test.YtfkbjniodomdjaaEa
namespace Go.Proofs.Ytfkbjniodomdjaa
open Go.RowKit

/-- a builder: its block b, its row v from base B on -/
def Bld (b B : Nat) (v : Value) (bs : List Value) (W : World) : Prop :=
  (∃ p, (p = .pointer none ∨ p = .pointer (some ⟨b, 0, none⟩)) ∧ W.heap[b]? = some (.cells #[p, v] 91 (0, 0))) ∧ W.ownsRow B 5 1 v bs.length bs ∧ v.ownBlock ≠ some b
theorem Bld.lt {b B : Nat} {v : Value} {bs : List Value} {W : World} (h : Bld b B v bs W) : b < W.heap.size := by
  obtain ⟨⟨p, _, h⟩, _⟩ := h
  exact (Array.getElem?_eq_some_iff.1 h).1
theorem Bld.keep {S : Nat → Prop} {b B : Nat} {v : Value} {bs : List Value} {W W' : World} (h : Bld b B v bs W) (hf : Frm S W W') (hb : ¬ S b) (hv : ∀ k, v.ownBlock = some k → ¬ S k) : Bld b B v bs W' := by
  have hl := h.lt
  obtain ⟨⟨p, hp, h1⟩, h2, h3⟩ := h
  exact ⟨⟨p, hp, (hf.block b hl hb).trans h1⟩, hf.own h2 hv, h3⟩
theorem Bld.is {b B B' : Nat} {v : Value} {bs : List Value} {W : World} (h : Bld b B v bs W) (hb : B' ≤ b) (hB : B' ≤ B) : Lib.IsBuilder 91 5 B' b bs W := by
  obtain ⟨⟨p, hp, h1⟩, h2, h3⟩ := h
  have h4 : W.ownsRow B' 5 1 v bs.length bs := ⟨h2.1, by
    rcases h2.2 with h | ⟨g, cap, cur, h5, h6, h7⟩
    · exact .inl h
    · exact .inr ⟨g, cap, cur, h5, Nat.le_trans hB h6, h7⟩⟩
  rcases hp with rfl | rfl
  · exact .inl ⟨hb, v, h1, h4, h3⟩
  · exact .inr ⟨hb, v, h1, h4, h3⟩
theorem chk_bld (b B : Nat) (v : Value) (bs : List Value) (W : World) (h : Bld b B v bs W) :
    Calls Try.prog 77 #[.pointer (some ⟨b, 0, none⟩)] W fun e W' => e = .returned (.tuple #[]) ∧ W'.heap[b]? = some (.cells #[.pointer (some ⟨b, 0, none⟩), v] 91 (0, 0)) ∧ Frm (fun k => k = b) W W' := by
  obtain ⟨⟨p, hp, h1⟩, _, _⟩ := h
  rcases hp with rfl | rfl
  · refine (chk_fresh b W (by rw [Lib.cell_of_heap h1]; rfl) (by simp [World.shape?, h1]) (Lib.frozen_of_heap h1 0)).mono ?_
    rintro e W' ⟨rfl, rfl⟩
    exact ⟨rfl, heap_setCell_same _ b 0 _ _ _ h1, Frm.set _ rfl⟩
  · refine (chk_used b W (by rw [Lib.cell_of_heap h1]; rfl)).mono ?_
    rintro e W' ⟨rfl, rfl⟩
    exact ⟨rfl, h1, Frm.refl _ _⟩
set_option maxHeartbeats 2000000 in
set_option maxRecDepth 100000 in
theorem write_bld (b B : Nat) (v : Value) (bs : List Value) (s : ByteArray) (W : World) (h : Bld b B v bs W) (hlen : bs.length + s.size ≤ 140737488355328) (hBw : B ≤ W.heap.size) :
    Calls Try.prog 49 #[.pointer (some ⟨b, 0, none⟩), .string s] W fun e W' => e = .returned (.tuple #[.int .i64 s.size, .nilIface]) ∧ ∃ v', Bld b B v' (bs ++ Lib.strCells s) W' ∧ Frm (fun k => k = b ∨ v.ownBlock = some k) W W' := by
  obtain ⟨i0, hi, hz0, hz1, hz2⟩ := info_parts infoU8
  have KC := Lib.hid (chk_bld b B v bs W h)
  have H := Lib.hid h
  clear h
  go_enter Try.func49, Try.ntmps49
  go_wp2_with (go_at_call 77; refine KC.out.mono ?_)
  rintro e w1 ⟨rfl, hbk, hf1⟩
  obtain ⟨_, hown0, hne⟩ := H.out
  have hown : w1.ownsRow B 5 1 v bs.length bs := hf1.own hown0 (fun k e1 e2 => hne (e2 ▸ e1))
  have c0 : w1.cell? ⟨b, 0, none⟩ = some (.pointer (some ⟨b, 0, none⟩)) := by rw [Lib.cell_of_heap hbk]; rfl
  have c1 : w1.cell? ⟨b, 1, none⟩ = some v := by rw [Lib.cell_of_heap hbk]; rfl
  have hs1 := hf1.size
  have hlt : b < w1.heap.size := (Array.getElem?_eq_some_iff.1 hbk).1
  go_wp2_with (at_builtin; refine Lib.wpList_append_own_string _ rfl _ _ 89 9 rfl B 5 i0 Try.underlying89 Try.underlying9 hi hz0 hz1 hz2 _ _ _ rfl hown s rfl ?c3 ?c4 ?c5 ?_)
  case c3 => unfold maxLen; omega
  case c4 => omega
  case c5 => omega
  intro v' w2 hown' hgrow _
  have hb2 : w2.heap[b]? = some (.cells #[.pointer (some ⟨b, 0, none⟩), v] 91 (0, 0)) := by
    rw [hgrow.block b hlt (fun e => hne e.symm)]
    exact hbk
  have d0 : w2.cell? ⟨b, 0, none⟩ = some (.pointer (some ⟨b, 0, none⟩)) := by rw [Lib.cell_of_heap hb2]; rfl
  have d1 : w2.cell? ⟨b, 1, none⟩ = some v := by rw [Lib.cell_of_heap hb2]; rfl
  have f1 : w2.frozen? ⟨b, 1, none⟩ = false := Lib.frozen_of_heap hb2 1
  have hv'b : v'.ownBlock ≠ some b := row_neD hown' hb2 (by decide)
  obtain ⟨ao, n', cap, rfl⟩ : ∃ ao n' cap, v' = .slice ao n' cap := by
    rcases hown'.2 with ⟨hv, _⟩ | ⟨g, cap, cur, hv, _⟩
    · exact ⟨_, _, _, hv⟩
    · exact ⟨_, _, _, hv⟩
  go_wp2
  go_ret2
  have hF : Frm (fun k => k = b) w2 (w2.setCell ⟨b, 1, none⟩ (.slice ao n' cap)) := Frm.set _ rfl
  refine ⟨rfl, .slice ao n' cap, ⟨⟨_, .inr rfl, heap_setCell_same _ b 1 _ _ _ hb2⟩, ?_, hv'b⟩, ?_⟩
  · have := hF.own hown' (fun k e1 e2 => hv'b (e2 ▸ e1))
    simpa [Lib.strCells_length] using this
  · exact ((hf1.mono (fun k e => .inl e)).trans (Frm.grown hgrow (fun k e => .inr e))).trans (hF.mono (fun k e => .inl e))
end Go.Proofs.Ytfkbjniodomdjaa
