/- Contracts of frame.Put and of the law's own way to a frame. -/
import Derived.Test.YtanbbomdidefjaaFc
namespace Go.Proofs.Ytanbbomdidefjaa
open Go.RowKit

/-- a row of its own, and a number -/
def Made2 (xs : List Int) (k : Int) (w : World) (e : Ending) (w' : World) : Prop :=
  ∃ v, e = .returned (.tuple #[v, .int .i64 k]) ∧ w'.ownsRow w.heap.size 5 1 v xs.length (xs.map (Value.int .u8)) ∧ Below w.heap.size w w'
theorem thn {a b c : World} (h : Below a.heap.size a b) (k : Below b.heap.size b c) : Below a.heap.size a c := h.trans (k.mono h.size)
theorem own_base {W : World} {base base' sz n : Nat} {e : TypeId} {v : Value} {xs : List Value} (h : W.ownsRow base e sz v n xs) (hb : base' ≤ base) : W.ownsRow base' e sz v n xs := by
  refine ⟨h.1, ?_⟩
  rcases h.2 with h | ⟨g, cap, cur, e1, hg, rest⟩
  · exact .inl h
  · exact .inr ⟨g, cap, cur, e1, Nat.le_trans hb hg, rest⟩
theorem rd_four (w : World) (S : Nat) (hS : S < 4294967296) (t : TypeId) : Rd (w.alloc (.cells (bytes4 S) t)) .u8 (some ⟨w.heap.size, 0, none⟩) (Fx.four S) := by
  refine .inr ⟨w.heap.size, 0, rfl, by simp, fun i hi => ?_⟩
  rw [Nat.zero_add, World.cell?_alloc_new]
  have h := bytes4_four hS
  rw [← Array.getElem?_toList, h, List.getElem?_map, List.getElem?_eq_getElem hi]
  rfl

set_option maxRecDepth 100000 in
set_option maxHeartbeats 400000 in
theorem Frame_any (b data : List Int) (A B : Option Addr) (ca cb : Nat) (w : World) (hb : Rd w .u8 A b) (hd : Rd w .u8 B data) (hA : A = none → ca = 0) (hB : B = none → cb = 0) (h8 : Byte8 data) (hbl : b.length ≤ 1000000) (hdl : data.length ≤ 1000000) :
    Calls Try.prog 11 #[.slice A b.length ca, .slice B data.length cb] w (Made2 (b ++ Fx.frame data) 0 w) := by
  have hlen : decide ((2097152 : Int) < (data.length : Int)) = false := by simp; omega
  go_enter Try.func11, Try.ntmps11
  go_wp2_with fail
  refine (Put_any [] none 0 data.length w (.inl rfl) (fun _ => rfl) (by simp) (by omega)).mono ?_
  rintro e w1 ⟨v1, rfl, hown1, hb1⟩
  simp only [List.nil_append] at hown1
  have hpl := Nx.put_len data.length (by omega)
  obtain ⟨A1, c1, rfl, hl1, hc1, hn1, hrd1⟩ := Rd.own hown1
  go_wp2_with fail
  refine (Sum_any data B cb w1 (hd.below hb1) h8 (by omega)).mono ?_
  rintro e w1' ⟨rfl, rfl⟩
  have hSl := Fx.sum_lt data
  obtain ⟨S, hS⟩ : ∃ S, Fx.sum data = S := ⟨_, rfl⟩
  rw [hS] at hSl
  rw [hS]
  go_wp2_with fail
  refine (placed_any S hSl _).mono ?_
  rintro e w2 ⟨rfl, hb2⟩
  obtain ⟨W4, hW4⟩ : ∃ W4, w2.alloc (.cells (bytes4 S) 51) = W4 := ⟨_, rfl⟩
  obtain ⟨W5, hW5⟩ : ∃ W5, W4.alloc (.cells #[Value.slice A b.length ca, Value.slice A1 (Nx.put data.length).length c1, Value.slice (some { block := w2.heap.size, off := 0 }) 4 4, Value.slice B data.length cb] 24) = W5 := ⟨_, rfl⟩
  have hs4 : W4.heap.size = w2.heap.size + 1 := by rw [← hW4]; simp
  have hb4 : Below w2.heap.size w2 W4 := by rw [← hW4]; exact (Below.refl _ _).alloc (Nat.le_refl _) _
  have hb5 : Below W4.heap.size W4 W5 := by rw [← hW5]; exact (Below.refl _ _).alloc (Nat.le_refl _) _
  have hrd4 : Rd W4 .u8 (some ⟨w2.heap.size, 0, none⟩) (Fx.four S) := by rw [← hW4]; exact rd_four w2 S hSl _
  have hB5 := thn (thn hb1 hb2) (thn hb4 hb5)
  have kC := Lib.hid (Concat_any [⟨A, b, ca⟩, ⟨A1, Nx.put data.length, c1⟩, ⟨some ⟨w2.heap.size, 0, none⟩, Fx.four S, 4⟩, ⟨B, data, cb⟩] (w2.heap.size + 1) 4 W5 (by rw [← hW5]; simp; omega) (by
    intro i s hs
    rw [← hW5, ← hs4, World.cell?_alloc_new]
    match i, hs with
    | 0, hs => cases hs; rfl
    | 1, hs => cases hs; rfl
    | 2, hs => cases hs; rfl
    | 3, hs => cases hs; rfl) (by
    intro s hs
    simp only [List.mem_cons, List.not_mem_nil, or_false] at hs
    rcases hs with rfl | rfl | rfl | rfl
    · exact hb.below hB5
    · exact (hrd1.below hb2).below (thn hb4 hb5)
    · exact hrd4.below hb5
    · exact hd.below hB5) (by
    intro s hs
    simp only [List.mem_cons, List.not_mem_nil, or_false] at hs
    rcases hs with rfl | rfl | rfl | rfl
    · exact hA
    · exact hn1
    · intro h; cases h
    · exact hB) (by simp) (by simp [cat, Fx.four]; omega))
  have hcat : cat [⟨A, b, ca⟩, ⟨A1, Nx.put data.length, c1⟩, ⟨some ⟨w2.heap.size, 0, none⟩, Fx.four S, 4⟩, ⟨B, data, cb⟩] = b ++ Fx.frame data := by
    simp [cat, Fx.frame, hS]
  rw [hcat] at kC
  rw [← hW5, ← hW4] at kC
  unfold bytes4 at kC
  clear hcat
  unfold bytes4
  go_wp2_with fail
  refine kC.out.mono ?_
  rintro e w6 ⟨v6, rfl, hown6, hb6⟩
  have hbig : Below w.heap.size w w6 := by
    have h1 : Below W5.heap.size W5 w6 := by rw [← hW5, ← hW4]; exact hb6
    exact thn hB5 h1
  have hown : w6.ownsRow w.heap.size 5 1 v6 (b ++ Fx.frame data).length ((b ++ Fx.frame data).map (Value.int .u8)) := own_base hown6 (by
    have h1 := hB5.size
    rw [← hW5, ← hW4] at h1
    exact h1)
  clear hown6 hb6 hW4 hW5
  go_wp2
  go_ret2
  exact ⟨_, rfl, hown, hbig⟩

set_option maxRecDepth 100000 in
set_option maxHeartbeats 400000 in
theorem of_any (data : List Int) (B : Option Addr) (cb : Nat) (w : World) (hd : Rd w .u8 B data) (hB : B = none → cb = 0) (h8 : Byte8 data) (hdl : data.length ≤ 1000000) :
    Calls Try.prog 6 #[.slice B data.length cb] w (Made (Fx.frame data) w) := by
  obtain ⟨i0, hi, hz0, hz1, hz2⟩ := info_parts infoU8
  go_enter Try.func6, Try.ntmps6
  go_wp2_with fail
  refine (lsum_any data B cb w hd h8 (by omega)).mono ?_
  rintro e w1' ⟨rfl, rfl⟩
  have hSl := Fx.sum_lt data
  obtain ⟨S, hS⟩ : ∃ S, Fx.sum data = S := ⟨_, rfl⟩
  rw [hS] at hSl
  rw [hS]
  have HS := Lib.hid hS
  clear hS
  go_wp2_with fail
  refine (Put_any [] none 0 data.length _ (.inl rfl) (fun _ => rfl) (by simp) (by omega)).mono ?_
  rintro e w1 ⟨v1, rfl, hown1, hb1⟩
  simp only [List.nil_append] at hown1
  have hpl := Nx.put_len data.length (by omega)
  have h4 : ([(S : Int) % 256, (S : Int) / 256 % 256, (S : Int) / 65536 % 256, (S : Int) / 16777216]) = Fx.four S := by
    unfold Fx.four
    simp only [List.cons.injEq, and_true]
    omega
  have H4 := Lib.hid h4
  clear h4
  go_wp2_with (first
    | (at_builtin; refine wpList_append_own _ rfl _ _ 24 rfl w1'.heap.size 5 i0 (.int .u8 0) 1 1 Try.underlying24 hi hz0 hz1 hz2 rfl (by decide) v1 _ _ rfl (hown1.alloc _) ⟨w1.heap.size, 0, none⟩ 4 4 ([(S : Int) % 256, (S : Int) / 256 % 256, (S : Int) / 65536 % 256, (S : Int) / 16777216].map (Value.int .u8)) rfl rfl (cells_new w1 _ _) (ints_one _) (by unfold maxLen; omega) (by omega) (by have := hb1.size; simp; omega) ?_; intro v2 w2 hown2 hg2 hn2; have hb2 : Below w1'.heap.size w1' w2 := (hb1.alloc hb1.size _).grown hg2 (by have := hb1.size; simp; omega) (fun k e => (hown1.lt k e).1); rw [← List.map_append, H4.out] at hown2; clear hg2 hn2)
    | (at_builtin; refine wpList_append_rd rfl 24 rfl w1'.heap.size 5 i0 (.int .u8 0) 1 Try.underlying24 hi hz0 hz1 hz2 v2 _ _ rfl hown2 B data.length cb rfl data .u8 rfl (hd.below hb2) hB rfl (by unfold maxLen; omega) (by omega) hb2.size ?_; intro v3 w3 hown3 hg3; have hb3 : Below w1'.heap.size w1' w3 := hb2.grown hg3 hb2.size (fun k e => (hown2.lt k e).1)))
  go_ret
  refine ⟨_, rfl, ?_, hb3⟩
  have e1 : (Fx.frame data).length = (Nx.put data.length).length + 4 + data.length := by unfold Fx.frame; simp [Fx.four]; omega
  have e2 : (Fx.frame data).map (Value.int .u8) = (Nx.put data.length ++ Fx.four S).map (Value.int .u8) ++ data.map (Value.int .u8) := by unfold Fx.frame; rw [HS.out, List.map_append]
  rw [e1, e2]
  exact hown3

end Go.Proofs.Ytanbbomdidefjaa
