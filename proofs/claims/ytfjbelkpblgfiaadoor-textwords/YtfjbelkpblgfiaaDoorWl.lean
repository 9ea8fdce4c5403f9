/- The contract of text.Lower. -/
import Derived.Test.YtfjbelkpblgfiaaDoorGx
import Derived.Lib.ConvBytes
namespace Go.Proofs.YtfjbelkpblgfiaaDoor
open Go.RowKit
namespace Wx
def low (c : Int) : Int := if 65 ≤ c ∧ c ≤ 90 then c + 32 else c
def mix (l : List Int) (k : Nat) : List Int := (l.take k).map low ++ l.drop k
theorem mix_len (l : List Int) (k : Nat) (h : k ≤ l.length) : (mix l k).length = l.length := by simp [mix]; omega
theorem mix_at (l : List Int) (k : Nat) (h : k < l.length) : (mix l k)[k]?.getD 0 = l[k]?.getD 0 := by
  unfold mix
  have hl : ((l.take k).map low).length = k := by simp; omega
  rw [List.getElem?_append_right (by omega), hl, Nat.sub_self, List.getElem?_drop, Nat.add_zero]
theorem mix_set (l : List Int) (k : Nat) (h : k < l.length) : (mix l k).set k (low (l[k]?.getD 0)) = mix l (k + 1) := by
  unfold mix
  have hl : ((l.take k).map low).length = k := by simp; omega
  rw [List.take_succ_eq_append_getElem h, List.getElem?_eq_getElem h, Option.getD_some, List.map_append]
  rw [List.set_append_right _ _ (by omega), hl, Nat.sub_self]
  simp
  rw [List.drop_eq_getElem_cons h]
  rfl
end Wx

/-- bytes at the head of a block, which may be written -/
def RowB (w : World) (g : Nat) (l : List Int) : Prop :=
  ∃ (C : Array Value) (mk : Nat × Nat), w.heap[g]? = some (.cells C 5 mk) ∧ l.length ≤ C.size ∧ C.size ≤ mk.1 ∧ ∀ i, i < l.length → C[i]? = some (.int .u8 (l[i]?.getD 0))
section
variable {w w' : World} {g : Nat} {l : List Int}
theorem RowB.lt (h : RowB w g l) : g < w.heap.size := by
  obtain ⟨C, mk, h1, _⟩ := h
  exact (Array.getElem?_eq_some_iff.1 h1).1
theorem RowB.cell (h : RowB w g l) (i : Nat) (hi : i < l.length) : w.cell? ⟨g, i, none⟩ = some (.int .u8 (l[i]?.getD 0)) := by
  obtain ⟨C, mk, h1, _, _, h2⟩ := h
  simp only [World.cell?, h1]
  exact h2 i hi
theorem RowB.fz (h : RowB w g l) (i : Nat) (hi : i < l.length) : w.frozen? ⟨g, i, none⟩ = false := by
  obtain ⟨C, mk, h1, h2, h3, _⟩ := h
  simp [World.frozen?, h1]
  omega
theorem RowB.set (h : RowB w g l) (k : Nat) (x : Int) : RowB (w.setCell ⟨g, k, none⟩ (.int .u8 x)) g (l.set k x) := by
  obtain ⟨C, mk, h1, h2, h3, h4⟩ := h
  refine ⟨C.setIfInBounds k (.int .u8 x), mk, ?_, by simpa using h2, by simpa using h3, ?_⟩
  · simp [World.setCell, Array.getElem?_modify, h1]
  · intro i hi
    rw [List.length_set] at hi
    rw [Array.getElem?_setIfInBounds, List.getElem?_set]
    by_cases e : k = i
    · subst e
      simp [hi, show k < C.size by omega]
    · simp [e, h4 i hi]
theorem RowB.keep (h : RowB w g l) (hb : Below w.heap.size w w') : RowB w' g l := by
  have hl := h.lt
  obtain ⟨C, mk, h1, h2⟩ := h
  exact ⟨C, mk, (hb.block g hl).trans h1, h2⟩
theorem RowB.drewN (h : RowB w g l) (n : Nat) : RowB (w.drewN n) g l := h
theorem RowB.conv {P : Program} {t u : TypeId} (ht : P.underlying t = some (.slice 5)) (he : P.underlying 5 = some (.int .u8)) (hu : P.underlying u = some .string) (h : RowB w g l) (n cap : Nat) (hn : n = l.length) :
    (convert t u (.slice (some ⟨g, 0, none⟩) n cap)).run P w = .ok (.string (strOfNums l)) w := by
  subst hn
  exact run_convert_bytes_arg w t 5 ht he g 0 l.length cap l rfl (fun i hi => by rw [Nat.zero_add, h.cell i hi]; simp) u hu
end
theorem getD_u8 {E : List Int} (h : ∀ x ∈ E, 0 ≤ x ∧ x ≤ 255) (i : Nat) : 0 ≤ E[i]?.getD 0 ∧ E[i]?.getD 0 ≤ 255 := by
  cases hi : E[i]? with
  | none => simp
  | some x => exact h x (List.mem_of_getElem? hi)
theorem rowB_new (w : World) (s : ByteArray) : RowB (Lib.bytesWorld w 5 s) w.heap.size (bs s) ∧ Below w.heap.size w (Lib.bytesWorld w 5 s) := by
  constructor
  · refine ⟨_, _, Lib.bytesWorld_at_new w 5 s, ?_, Nat.le_refl _, ?_⟩
    · simp [Lib.bytesCells, bs_len]
    · intro i hi
      rw [bs_len] at hi
      rw [bs_get s i hi]
      simp [Lib.bytesCells, Array.getElem?_append, hi]
      rfl
  · exact ⟨rfl, rfl, rfl, by rw [Lib.bytesWorld_size]; omega, fun k hk => Lib.bytesWorld_at_old _ _ _ k hk⟩

theorem small_up (c : Int) (w : World) (h0 : 65 ≤ c) (h1 : c ≤ 90) : Calls Tryd.prog 10 #[.int .i32 c] w fun e w' => e = .returned (.int .i32 (c + 32)) ∧ w = w' := by
  go_enter Tryd.func10, Tryd.ntmps10
  go_wp2
  go_ret
  exact ⟨rfl, rfl⟩
theorem small_no (c : Int) (w : World) (h : ¬ (65 ≤ c ∧ c ≤ 90)) : Calls Tryd.prog 10 #[.int .i32 c] w fun e w' => e = .returned (.int .i32 c) ∧ w = w' := by
  by_cases h1 : 65 ≤ c
  · have h2 : ¬ c ≤ 90 := by omega
    go_enter Tryd.func10, Tryd.ntmps10
    go_wp2
    go_ret
    exact ⟨rfl, rfl⟩
  · go_enter Tryd.func10, Tryd.ntmps10
    go_wp2
    go_ret
    exact ⟨rfl, rfl⟩
theorem small_any (c : Int) (w : World) : Calls Tryd.prog 10 #[.int .i32 c] w fun e w' => e = .returned (.int .i32 (Wx.low c)) ∧ w = w' := by
  unfold Wx.low
  by_cases h : 65 ≤ c ∧ c ≤ 90
  · rw [if_pos h]; exact small_up c w h.1 h.2
  · rw [if_neg h]; exact small_no c w h

set_option maxHeartbeats 400000 in
theorem lower_any (s : ByteArray) (w : World) (hs : s.size ≤ 1000000) : Calls Tryd.prog 5 #[.string s] w fun e w' => e = .returned (.string (strOfNums ((bs s).map Wx.low))) ∧ Below w.heap.size w w' := by
  have kv := fun (w : World) => Lib.run_convert_string_bytes (P := Tryd.prog) w 9 23 5 s Tryd.underlying9 Tryd.underlying23 Tryd.underlying5
  have hbl := bs_len s
  have HL := Lib.hid hbl
  clear hbl
  go_enter Tryd.func5, Tryd.ntmps5
  go_wp2
  obtain ⟨h0, hb0⟩ := rowB_new w s
  go_loopw [10] (fun i wr => ∃ k : Nat, k ≤ s.size ∧ i = .int .i64 k ∧ RowB wr w.heap.size (Wx.mix (bs s) k) ∧ Below w.heap.size w wr) (fun i _ => s.size - (intOf i).toNat)
  case atStart => exact ⟨0, by omega, rfl, by simpa [Wx.mix] using h0, hb0⟩
  case round =>
    obtain ⟨k, hk, rfl, hrow, hB⟩ := hrel
    have hml := Wx.mix_len (bs s) k (by rw [HL.out]; exact hk)
    rw [HL.out] at hml
    clear kv h0 hb0
    by_cases hlt : k < s.size
    · have hc := hrow.cell k (by omega)
      have hf := hrow.fz k (by omega)
      have hat := Wx.mix_at (bs s) k (by rw [HL.out]; exact hlt)
      have hset := Wx.mix_set (bs s) k (by rw [HL.out]; exact hlt)
      have hrg := getD_u8 (bs_rng s) k
      obtain ⟨c, hcc⟩ : ∃ c, (bs s)[k]?.getD 0 = c := ⟨_, rfl⟩
      rw [hat, hcc] at hc
      rw [hcc] at hset hrg
      have hlo : 0 ≤ Wx.low c ∧ Wx.low c ≤ 255 := by unfold Wx.low; split <;> omega
      have HS := Lib.hid hset
      clear hat hset hcc hml
      go_wp2_with (go_at_call 10; refine (small_any _ _).mono ?_; rintro e w' ⟨rfl, rfl⟩)
      go_roundw
      case rel => exact ⟨k + 1, by omega, by go_num, by rw [← HS.out]; exact hrow.set k _, hB.setCell (p := ⟨w.heap.size, k, none⟩) (Nat.le_refl _) _⟩
      case measure => simp [intOf]; omega
    · obtain rfl : k = s.size := by omega
      have hcv := fun cap => hrow.conv (P := Tryd.prog) (u := 9) Tryd.underlying23 Tryd.underlying5 Tryd.underlying9 s.size cap hml.symm
      have hm : Wx.mix (bs s) s.size = (bs s).map Wx.low := by
        unfold Wx.mix
        rw [← HL.out, List.take_length, List.drop_length, List.append_nil]
      rw [hm] at hcv
      clear hml hm
      go_wp2
      go_ret
      exact ⟨rfl, hB⟩

end Go.Proofs.YtfjbelkpblgfiaaDoor
