/- The law of DomMany. -/
import Derived.Test.YtfkbjniodomdjaaHk
import Derived.Test.YtfkbjniodomdjaaHn
import Derived.Test.YtfkbjniodomdjaaHm
import Derived.RangeFuncCalls
namespace Go.Proofs.Ytfkbjniodomdjaa
open Go.RowKit Go.Shelf Go.Lib
attribute [local go_sem] Oper.semAt_some

/-- the node that has nothing -/
def zeroNd : Nd := ⟨0, 0, ⟨#[]⟩, ⟨#[]⟩, none, [], 0, ⟨#[]⟩, ⟨#[]⟩, 0, .slice none 0 0, [], 0⟩
def docLen (D : Nat) (W : World) : Nat := match W.cell? ⟨D, 0, none⟩ with
  | some (.slice _ n _) => n
  | _ => 0
theorem DocM.len {base D : Nat} {v : Value} {qk : Bool} {ns : List Nd} {W : World} (h : DocM base D v qk ns W) : docLen D W = ns.length := by
  obtain ⟨A, cap, e, _⟩ := h.sl
  unfold docLen
  rw [h.cells.1, e]
theorem kdN_push {ns xs : List Nd} (h0 : 0 < ns.length) : kdN (ns ++ xs) 0 = kdN ns 0 := by
  have hx : ns[0]? = some ns[0] := List.getElem?_eq_getElem h0
  have hy : (ns ++ xs)[0]? = some ns[0] := by rw [List.getElem?_append_left h0]; exact hx
  exact (atN_some (i := 0) hy).trans (atN_some (i := 0) hx).symm
set_option maxRecDepth 100000 in
set_option maxHeartbeats 4000000 in
theorem domMany_law (n : Int) (w : World) : Calls Try.prog 7 #[.int .i64 n] w fun e w' => e = .returned (.bool true) ∧ Below w.heap.size w w' := by
  refine (callsIn_wide (n := 9)).1 ?_
  refine callsIn_of_wp_marks Try.func7 rfl trivial ?_ rfl
  simp only [Try.ntmps7, List.size_toArray, List.length_cons, List.length_nil, Nat.reduceAdd, Nat.reduceSub, Array.replicate_succ, Array.replicate_zero, List.push_toArray, List.append_toArray, List.nil_append, List.cons_append]
  obtain ⟨w1, hw1⟩ : ∃ w1, w.alloc (.cells #[.bool false] 4) = w1 := ⟨_, rfl⟩
  have hb1 : Below w.heap.size w w1 := by rw [← hw1]; exact (Below.refl _ w).alloc (Nat.le_refl _) _
  have hs1 : w1.heap.size = w.heap.size + 1 := by rw [← hw1]; simp
  have g0 : w1.heap[w.heap.size]? = some (.cells #[.bool false] 4 (0, 0)) := by rw [← hw1]; exact heap_alloc_new w _
  have HH := Lib.hid (head8_any w1)
  have NA := fun W => nil_Add zeroNd W
  unfold zeroNd Nd.cs at NA
  replace NA := Lib.hid NA
  refine wpIn_wide.2 ?_
  go_wp2_with fail
  refine HH.out.mono ?_
  rintro e w2 ⟨rfl, hb2⟩
  have HB2 := Lib.hid hb2
  have HB1 := Lib.hid hb1
  clear hb2 hb1 hw1 HH
  go_wp2_with fail
  refine (nil_Kind _ _).mono ?_
  rintro e w3 ⟨rfl, rfl⟩
  go_wp2_with fail
  refine (nil_Up _ _).mono ?_
  rintro e w3 ⟨rfl, rfl⟩
  go_wp2_with fail
  refine (NA.out _).mono ?_
  rintro e w3 ⟨rfl, hb3⟩
  have HB3 := Lib.hid (HB2.out.trans (hb3.mono HB2.out.size))
  clear hb3 HB2 NA
  go_wp2_with fail
  refine (nil_Put _ _ _ _).mono ?_
  rintro e w4 ⟨rfl, rfl⟩
  go_wp2_with fail
  refine (nil_Say _ _ _ _).mono ?_
  rintro e w4 ⟨rfl, rfl⟩
  go_wp2_with fail
  refine (nil_Move _ _ _).mono ?_
  rintro e w4 ⟨rfl, rfl⟩
  go_wp2_with fail
  refine (nil_Take _ _ _).mono ?_
  rintro e w4 ⟨rfl, rfl⟩
  go_wp2_with fail
  refine (nil_Out _ _).mono ?_
  rintro e w4 ⟨rfl, rfl⟩
  go_wp2_with fail
  refine (nil_walk _ _).mono ?_
  rintro e w5 ⟨rfl, rfl⟩
  obtain ⟨W4, hW4⟩ : ∃ W4, (w4.alloc (.cells #[.pointer none] 24)).alloc (.cells #[.int .i64 n] 3) = W4 := ⟨_, rfl⟩
  have hs4 : W4.heap.size = w4.heap.size + 2 := by rw [← hW4]; simp
  have hb4 : Below w1.heap.size w1 W4 := by
    rw [← hW4]
    have hz := HB3.out.size
    exact (HB3.out.alloc hz _).alloc (by rw [World.size_alloc]; omega) _
  have c1 : W4.cell? ⟨w4.heap.size, 0, none⟩ = some (.pointer none) := by
    have g : W4.heap[w4.heap.size]? = some (.cells #[.pointer none] 24 (0, 0)) := by
      rw [← hW4, Below.heap_alloc _ _ _ (by simp)]
      exact heap_alloc_new w4 _
    rw [cell_of_row _ _ _ _ _ _ g]; rfl
  have c2 : W4.cell? ⟨w4.heap.size + 1, 0, none⟩ = some (.int .i64 n) := by
    have g : W4.heap[w4.heap.size + 1]? = some (.cells #[.int .i64 n] 3 (0, 0)) := by
      rw [← hW4]
      have := heap_alloc_new (w4.alloc (.cells #[.pointer none] 24)) (.cells #[.int .i64 n] 3)
      simpa using this
    rw [cell_of_row _ _ _ _ _ _ g]; rfl
  rw [hW4]
  have HI := Lib.hid (fun (l : Nat) (W : World) (h : Below W4.heap.size W4 W) => nil_iter l n w4.heap.size (w4.heap.size + 1) W ((h.cell (p := ⟨w4.heap.size, 0, none⟩) (by show w4.heap.size < _; omega)).trans c1) ((h.cell (p := ⟨w4.heap.size + 1, 0, none⟩) (by show w4.heap.size + 1 < _; omega)).trans c2) (by have := h.size; omega) (by have := h.size; omega))
  have hwz := hb4.size
  have HB4 := Lib.hid hb4
  clear hW4 c1 c2 HB3
  go_wp2
  refine (wpIn_wide (n := 9)).1 ?_
  refine wpIn_rangeFunc_ownF (F := Fence.wide) (n := 9) (α := Value × Value) rfl (by omega) (gf := 45) (lb := #[.pointer (some ⟨w4.heap.size, 0, none⟩), .pointer (some ⟨w4.heap.size + 1, 0, none⟩)]) rfl trivial (enters_of Try.func45 (by kernel_rfl) rfl)
    (encs := fun x => #[x.1, x.2]) (Kp := fun _ _ => True) (S := fun xs => xs = []) (Sp := fun _ => False) (N := 0) (w0 := W4)
    (fun l J Jx W hW hJ _ _ h0 => (callsIn_wide.2 (HI.out l W hW)).mono (fun e W' h => ⟨⟨_, h.1⟩, .inl ⟨[], rfl, hJ [] W W' none h0 ⟨h.2.os, h.2.tape, h.2.output, h.2.size, fun k hk _ => h.2.block k hk⟩ (by intro r e; cases e)⟩⟩))
    (fun _ _ => trivial) (fun _ _ _ _ _ _ _ _ => trivial) (Below.refl _ _) (fun _ => rfl)
    (fun _ W => Below w1.heap.size w1 W) (fun _ _ _ => False) (fun pre A B row hs hg hr => Below.grown hs hg hs.size (fun k e => by have := (hr k e).1; omega)) (fun _ _ _ _ _ hs _ _ => hs) HB4.out
    ?a1 ?assign ?body ?done ?stop
  case assign =>
    intro l x W K hK
    gi_wp2
    exact hK
  case body =>
    intro l pre x W _ h
    omega
  case stop =>
    rintro D c pre W _ h
    exact h.elim
  case done =>
    rintro D xs W hD _ hB hK
    have HDL := Lib.hid (Array.getElem?_eq_some_iff.1 hK).1
    have HK := Lib.hid hK
    have HB := Lib.hid hB
    have HD := Lib.hid hD
    have AP := fun (base D : Nat) (v : Value) (ns : List Nd) (W : World) (h : DocM base D v false ns W) (hb : base ≤ W.heap.size) (hl : ns.length < 20000) => add_plain (txN ⟨#[]⟩) h hb rfl hl (.inl rfl) (fun _ => rfl) (Nat.zero_le _)
    have AF := fun (base D : Nat) (v : Value) (ns : List Nd) (W : World) (h : DocM base D v false ns W) (hb : base ≤ W.heap.size) (hl : ns.length = 20000) => add_full (txN ⟨#[]⟩) h hb rfl hl (.inl rfl) (fun _ => rfl) (Nat.zero_le _)
    rw [show (txN ⟨#[]⟩).cs.toArray = #[.int .i64 3, .int .i64 0, .string ⟨#[]⟩, .string ⟨#[]⟩, .slice none 0 0, .string ⟨#[]⟩, .string ⟨#[]⟩, .int .i64 0, .slice none 0 0, .int .i64 0] from rfl] at AP AF
    replace AP := Lib.hid AP
    replace AF := Lib.hid AF
    clear hK hB hD HI HB4
    go_wp2_with fail
    refine (New_any _).mono ?_
    rintro e W5 ⟨Dd, v, rfl, hd5, hb5⟩
    have HD5 := Lib.hid hd5
    have HB5 := Lib.hid hb5
    clear hd5 hb5
    go_wp2
    go_loopw [53] (fun _ wr => ∃ v ns, ns.length ≤ 20000 ∧ 0 < ns.length ∧ Hid (kdN ns 0 = []) ∧ Hid (DocM W.heap.size Dd v false ns wr) ∧ Hid (Below W.heap.size W wr)) (fun _ wr => 20000 - docLen Dd wr)
    case atStart => exact ⟨v, [pageNd], by decide, by decide, Lib.hid rfl, HD5, HB5⟩
    case round =>
      obtain ⟨v', ns, hl, h0, HK0, HDr, HBr⟩ := hrel
      obtain ⟨An, cap, e, hle, hmx, _⟩ := HDr.out.sl
      subst e
      have c0 := HDr.out.cells.1
      have hdl := HDr.out.len
      by_cases hlt : ns.length < 20000
      · have d1 : decide ((ns.length : Int) < 20000) = true := decide_eq_true (by omega)
        have d2 : ((ns.length : Int) == -1) = false := by rw [beq_eq_false_iff_ne]; omega
        have KA := Lib.hid (AP.out W.heap.size Dd _ ns wr HDr.out HBr.out.size hlt)
        go_wp2_with fail
        refine KA.out.mono ?_
        rintro e w6 ⟨rfl, A, c, ha⟩
        have hb6 := HBr.out.trans (ha.bw HDr.out HBr.out.size)
        obtain ⟨v6, hd6, _, _⟩ := ha
        have HD6 := Lib.hid hd6
        have HB6 := Lib.hid hb6
        clear hd6 hb6 KA
        go_wp2
        have h6 := HD6.out.len
        refine ⟨⟨v6, _, by simp; omega, by simp, Lib.hid (by rw [kdN_push h0]; exact HK0.out), HD6, HB6⟩, ?_⟩
        rw [h6, hdl]
        simp
        omega
      · have d1 : decide ((ns.length : Int) < 20000) = false := decide_eq_false (by omega)
        have hll : ns.length = 20000 := by omega
        have d3 : ((ns.length : Int) == 20000) = true := by rw [beq_iff_eq]; omega
        have KA := Lib.hid (AF.out W.heap.size Dd _ ns wr HDr.out HBr.out.size hll)
        go_wp2_with fail
        refine KA.out.mono ?_
        rintro e w6 ⟨rfl, hb6⟩
        have HS := Lib.hid (say_full (HDr.out.below hb6) (Nat.le_trans HBr.out.size hb6.size) hll HK0.out)
        have HB6 := Lib.hid (HBr.out.trans (hb6.mono HBr.out.size))
        have HD6 := Lib.hid (HDr.out.below hb6)
        clear hb6 KA c0
        go_wp2_with fail
        refine HS.out.mono ?_
        rintro e w7 ⟨rfl, hb7⟩
        have hd7 := HD6.out.below hb7
        have c7 := hd7.cells.1
        have hb7' := HB6.out.trans (hb7.mono HB6.out.size)
        have hW1 := HB.out.size
        have g7 : w7.heap[w.heap.size]? = some (.cells #[.bool false] 4 (0, 0)) := (hb7'.block w.heap.size (by omega)).trans ((HB.out.block w.heap.size (by omega)).trans g0)
        have cb7 : w7.cell? ⟨w.heap.size, 0, none⟩ = some (.bool false) := by rw [cell_of_row _ _ _ _ _ _ g7]; rfl
        have fb7 : w7.frozen? ⟨w.heap.size, 0, none⟩ = false := by simp [World.frozen?, g7]
        have k7 := (hb7'.block D HDL.out).trans HK.out
        have HK7 := Lib.hid k7
        have HB7 := Lib.hid hb7'
        clear hb7 hd7 hb7' k7
        have hD1 := HD.out
        have hlt7 := (Array.getElem?_eq_some_iff.1 HK7.out).1
        have hK8 : (w7.setCell ⟨w.heap.size, 0, none⟩ (.bool true)).heap[D]? = some (.deferred (some [])) := ((Frm.set (S := fun k => k = w.heap.size) (A := w7) (p := ⟨w.heap.size, 0, none⟩) (.bool true) rfl).block D hlt7 (by omega)).trans HK7.out
        have c8 : ((w7.setCell ⟨w.heap.size, 0, none⟩ (.bool true)).putObj D (.deferred none)).cell? ⟨w.heap.size, 0, none⟩ = some (.bool true) := by
          have h1 : (w7.setCell ⟨w.heap.size, 0, none⟩ (.bool true)).cell? ⟨w.heap.size, 0, none⟩ = some (.bool true) := World.cell?_setCell_same' _ _ _ (by rw [cb7]; rfl)
          exact (World.cell?_of_block (World.putObj_heap_other (by show w.heap.size ≠ D; omega))).trans h1
        have hb8 : Below w.heap.size w ((w7.setCell ⟨w.heap.size, 0, none⟩ (.bool true)).putObj D (.deferred none)) := by
          have h1 : Below w.heap.size w w7 := HB1.out.trans ((HB.out.trans (HB7.out.mono hW1)).mono (by omega))
          have h2 := h1.setCell (p := ⟨w.heap.size, 0, none⟩) (Nat.le_refl _) (.bool true)
          exact h2.grown (grownBy_putObj' _ D _) h2.size (fun r e => by cases e; omega)
        have HK8 := Lib.hid hK8
        have HB8 := Lib.hid hb8
        clear hK8 hb8 hlt7
        go_wp2
        refine ⟨by simp, .inl ⟨_, _, rfl, run_takeDeferred HK8.out, ?_⟩⟩
        refine ⟨.bool true, ?_, rfl, HB8.out⟩
        simp [results, Try.f7, go_sem, c8]
end Go.Proofs.Ytfkbjniodomdjaa
