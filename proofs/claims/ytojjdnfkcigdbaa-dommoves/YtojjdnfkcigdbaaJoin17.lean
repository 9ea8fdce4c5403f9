/- Walk: its iterator's promise. strings.Builder: what its methods do to one that the call has made. strings.Builder with a frame: WriteString turns its block and its row, nothing else. strings.Builder with a frame: String turns nothing but its row's mark. Words: all texts beneath a node. The contract of Words. -/
import Derived.Test.YtojjdnfkcigdbaaHc
import Derived.Laws.EntriesVeiled
import Derived.Test.YtojjdnfkcigdbaaJoin0
import Derived.Test.YtojjdnfkcigdbaaKShelf
import Derived.Test.YtojjdnfkcigdbaaJoin4
import Derived.RangeFuncCalls
namespace Go.Proofs.Ytojjdnfkcigdbaa
open Go.RowKit Go.Shelf Go.Lib
attribute [local go_sem] Oper.semAt_some

section
variable {Bd Bn base D : Nat} {v : Value} {qk : Bool} {ns : List Nd}
theorem walk_any (D : Nat) (n : Int) (W : World) : Calls Try.prog 17 #[.pointer (some ⟨D, 0, none⟩), .int .i64 n] W fun e W' => e = .returned (.func (.func 46) #[] #[.pointer (some ⟨W.heap.size, 0, none⟩), .pointer (some ⟨W.heap.size + 1, 0, none⟩)]) ∧ W' = (W.alloc (.cells #[.pointer (some ⟨D, 0, none⟩)] 24)).alloc (.cells #[.int .i64 n] 3) := by
  go_enter Try.func17, Try.ntmps17
  go_wp2
  go_ret
  exact ⟨rfl, rfl⟩
theorem iterW_e (nn : Nat) (hn : 1 ≤ nn) (n : Int) (o : List (Int × Nat)) (lf : Nat) (b : Bool) (hvis : Vis ns ns.length (kdN ns (srcN ns n)) 1 o lf b) (hl : ns.length ≤ 1000000) (w : World) (hs : SrcD Bd base D v qk ns w) (hbn : w.heap[Bn]? = some (.cells #[.int .i64 n] 3 (0, 0))) :
    SeqE nn Try.prog 46 #[.pointer (some ⟨Bd, 0, none⟩), .pointer (some ⟨Bn, 0, none⟩)] encW 3 (fun E => KpW Bd base D v qk ns E) (fun xs => xs = o) (fun pre => pre <+: o) (ns.length + 1) w := by
  intro l J Jx W hW hJ hJx hY h0
  obtain ⟨E, hE⟩ : ∃ E, W.heap.size = E := ⟨_, rfl⟩
  rw [hE] at hJ hJx hY
  have hsW : SrcD Bd base D v qk ns W := hs.keep (S := fun _ => False) (Frm.below hW) (fun e => e) (fun _ _ e => e)
  have hnW : W.heap[Bn]? = some (.cells #[.int .i64 n] 3 (0, 0)) := (hW.block Bn (Array.getElem?_eq_some_iff.1 hbn).1).trans hbn
  have hBd : Bd < E := by rw [← hE]; exact (Array.getElem?_eq_some_iff.1 hsW.bd).1
  have hBn : Bn < E := by rw [← hE]; exact (Array.getElem?_eq_some_iff.1 hnW).1
  have hba : Below W.heap.size W (W.alloc (.cells #[.func (.yield l) #[] #[]] 87)) := (Below.refl _ W).alloc (Nat.le_refl _) _
  have KZ := Lib.hid (size_any _ (hsW.doc.below hba))
  have cda : (W.alloc (.cells #[.func (.yield l) #[] #[]] 87)).cell? ⟨Bd, 0, none⟩ = some (.pointer (some ⟨D, 0, none⟩)) := by rw [cell_of_row _ _ _ _ _ _ ((hba.block Bd (by omega)).trans hsW.bd)]; rfl
  obtain ⟨WB, hWB⟩ : ∃ WB, ((W.alloc (.cells #[.func (.yield l) #[] #[]] 87)).alloc (.cells #[.int .i64 ns.length] 3)).alloc (.cells #[.nilFunc] 87) = WB := ⟨_, rfl⟩
  have hbB : Below W.heap.size W WB := by rw [← hWB]; exact (hba.alloc hba.size _).alloc (by simp; omega) _
  have b0 : WB.heap[E]? = some (.cells #[.func (.yield l) #[] #[]] 87 (0, 0)) := by
    rw [← hWB, Below.heap_alloc _ _ _ (by simp; omega), Below.heap_alloc _ _ _ (by simp; omega), ← hE]
    exact heap_alloc_new W _
  have b1 : WB.heap[E + 1]? = some (.cells #[.int .i64 ns.length] 3 (0, 0)) := by
    rw [← hWB, Below.heap_alloc _ _ _ (by simp; omega), ← hE]
    have := heap_alloc_new (W.alloc (.cells #[.func (.yield l) #[] #[]] 87)) (.cells #[.int .i64 ns.length] 3)
    simpa using this
  have b2 : WB.heap[E + 1 + 1]? = some (.cells #[.nilFunc] 87 (0, 0)) := by
    rw [← hWB, ← hE]
    have := heap_alloc_new ((W.alloc (.cells #[.func (.yield l) #[] #[]] 87)).alloc (.cells #[.int .i64 ns.length] 3)) (.cells #[.nilFunc] 87)
    simpa using this
  have cF : WB.cell? ⟨E + 1 + 1, 0, none⟩ = some .nilFunc := by rw [cell_of_row _ _ _ _ _ _ b2]; rfl
  have fF : WB.frozen? ⟨E + 1 + 1, 0, none⟩ = false := by simp [World.frozen?, b2]
  obtain ⟨W4, hW4⟩ : ∃ W4, WB.setCell ⟨E + 1 + 1, 0, none⟩ (.func (.func 48) #[] #[.pointer (some ⟨Bd, 0, none⟩), .pointer (some ⟨E + 1, 0, none⟩), .pointer (some ⟨E, 0, none⟩), .pointer (some ⟨E + 1 + 1, 0, none⟩)]) = W4 := ⟨_, rfl⟩
  have hF4 : Frm (fun k => k = E + 1 + 1) WB W4 := by rw [← hW4]; exact Frm.set _ rfl
  have hzB : WB.heap.size = E + 3 := by rw [← hWB]; simp; omega
  have hvm : VM Bd base D v qk ns E l ns.length W4 := by
    refine ⟨(hsW.keep (S := fun _ => False) (Frm.below hbB) (fun e => e) (fun _ _ e => e)).keep hF4 (by omega) (fun k hk e => by have := (hsW.doc.in_ k hk).2; omega), (hF4.block E (by omega) (by omega)).trans b0, (hF4.block (E + 1) (by omega) (by omega)).trans b1, ?_, hBd, fun k hk => by have := (hsW.doc.in_ k hk).2; omega⟩
    rw [← hW4]
    exact heap_setCell_same _ _ 0 _ _ _ b2
  have hj4 : J [] W4 := by
    have h1 : J [] WB := hJ _ _ _ none h0 ⟨hbB.os, hbB.tape, hbB.output, hbB.size, fun k hk _ => hbB.block k hk⟩ (fun _ e => by cases e)
    refine hJ _ _ _ (some (E + 1 + 1)) h1 ?_ (fun r e => by cases e; omega)
    rw [← hW4]
    exact grown_setCellM WB ⟨E + 1 + 1, 0, none⟩ _
  have hn4 : W4.cell? ⟨Bn, 0, none⟩ = some (.int .i64 n) := by rw [cell_of_row _ _ _ _ _ _ ((hF4.block Bn (by omega) (by omega)).trans ((hbB.block Bn (by omega)).trans hnW))]; rfl
  have cv4 : W4.cell? ⟨E + 1 + 1, 0, none⟩ = some (.func (.func 48) #[] #[.pointer (some ⟨Bd, 0, none⟩), .pointer (some ⟨E + 1, 0, none⟩), .pointer (some ⟨E, 0, none⟩), .pointer (some ⟨E + 1 + 1, 0, none⟩)]) := (hvm.cells).2.2.2.2.1
  have HV := visit_in nn hn l (ns.length + 1) J Jx hJ hY ns.length n 1 [] o lf b W4 hvis hvm hj4 (by simp) hl (by omega)
  simp only [List.nil_append] at HV
  have HV : CallsIn Fence.wide nn Try.prog 48 #[.int .i64 n, .int .i64 1, .pointer (some ⟨Bd, 0, none⟩), .pointer (some ⟨E + 1, 0, none⟩), .pointer (some ⟨E, 0, none⟩), .pointer (some ⟨E + 1 + 1, 0, none⟩)] W4 _ := HV
  have HV := Lib.hid HV
  clear hvis hs hbn hsW hnW hY hJ h0 hba hbB b0 b1 b2 hF4 hvm hj4
  refine callsIn_of_wp Try.func46 rfl trivial ?_ rfl
  simp only [Try.ntmps46, List.size_toArray, List.length_cons, List.length_nil, Nat.reduceAdd, Nat.reduceSub, Array.replicate_succ, Array.replicate_zero, List.push_toArray, List.append_toArray, List.nil_append, List.cons_append]
  gi_wp2_with (first | (refine ⟨trivial, ?_⟩; gi_at_call 47; refine (callsIn_wide.2 KZ.out).mono ?_; rintro e w2 ⟨rfl, rfl⟩) | (refine ⟨trivial, ?_⟩; gi_at_call 48; refine (callsIn_wide.2 (callsIn_wide.1 HV.out)).mono ?_; rintro e W5 h5; obtain ⟨r, rfl⟩ : ∃ r, e = .returned (.bool r) := (by rcases h5 with ⟨h, _⟩ | ⟨h, _⟩ <;> exact ⟨_, h⟩); have H5 := Lib.hid h5; clear h5))
  go_end0
  refine ⟨⟨_, rfl⟩, ?_⟩
  rcases H5.out with ⟨_, h, _⟩ | ⟨_, o', h1, h2⟩
  · exact .inl ⟨_, rfl, h⟩
  · exact .inr ⟨_, h1, h2⟩
end
end Go.Proofs.Ytojjdnfkcigdbaa
namespace Go.Proofs.Ytojjdnfkcigdbaa
open Go.RowKit

theorem sizeBuilder : (Try.prog.info? 92).map (·.size) = some 2 := by kernel_rfl
theorem liesBuilder : liesAt Try.prog Try.prog.depth 92 (2 / Try.prog.cellsOf 92) 0 92 1 = true := by kernel_rfl

set_option maxHeartbeats 1000000 in
set_option maxRecDepth 100000 in
theorem chk_used (b : Nat) (w : World) (h0 : w.cell? ⟨b, 0, none⟩ = some (.pointer (some ⟨b, 0, none⟩))) :
    Calls Try.prog 82 #[.pointer (some ⟨b, 0, none⟩)] w fun e w' => e = .returned (.tuple #[]) ∧ w = w' := by
  obtain ⟨j, hj, _⟩ := Option.map_eq_some_iff.1 sizeBuilder
  go_enter Try.func82, Try.ntmps82
  go_wp2
  rw [Lib.run_neq_ptr_same w _ Try.underlying89 hj]
  go_wp2
  go_end0
  exact ⟨rfl, rfl⟩

set_option maxHeartbeats 1000000 in
set_option maxRecDepth 100000 in
theorem chk_fresh (b : Nat) (w : World) (h0 : w.cell? ⟨b, 0, none⟩ = some (.pointer none)) (hsh : w.shape? b = some (92, 2)) (hfz : w.frozen? ⟨b, 0, none⟩ = false) :
    Calls Try.prog 82 #[.pointer (some ⟨b, 0, none⟩)] w fun e w' => e = .returned (.tuple #[]) ∧ w' = w.setCell ⟨b, 0, none⟩ (.pointer (some ⟨b, 0, none⟩)) := by
  obtain ⟨j, hj, hjs⟩ := Option.map_eq_some_iff.1 sizeBuilder
  go_enter Try.func82, Try.ntmps82
  go_wp2
  rw [Lib.run_to_unsafe w ⟨b, 0, none⟩ Try.underlying89 Try.underlying139 hj (by rw [hjs]; decide) hsh (Nat.zero_lt_succ 1)]
  simp only [Result.andThen]
  rw [Oper.upon_value]
  go_wp2
  rw [run_callFunc_extern Try.func95 (by kernel_rfl) (by kernel_rfl) (by kernel_rfl) (e := Extern.AbiNoEscape.same) (by kernel_rfl)]
  rw [Lib.run_noEscape]
  simp only [Result.andThen]
  rw [Oper.upon_value]
  go_wp2
  rw [Lib.run_from_unsafe w ⟨b, 0, none⟩ Try.underlying139 Try.underlying89 hj hsh liesBuilder]
  simp only [Result.andThen]
  rw [Oper.upon_value]
  go_wp2
  go_end0
  exact ⟨rfl, rfl⟩

theorem chk_any (B b : Nat) (bs : List Value) (w : World) (h : Lib.IsBuilder 92 5 B b bs w) :
    Calls Try.prog 82 #[.pointer (some ⟨b, 0, none⟩)] w fun e w' => e = .returned (.tuple #[]) ∧ (Lib.BuilderAt 92 5 B b (.pointer (some ⟨b, 0, none⟩)) bs w' ∧ Below B w w') := by
  rcases h with h | h
  · refine (chk_fresh b w h.cell0 h.shape h.frozen0).mono ?_
    rintro e w' ⟨rfl, rfl⟩
    exact ⟨rfl, h.used _, (Below.refl B w).setCell (p := ⟨b, 0, none⟩) h.1 _⟩
  · refine (chk_used b w h.cell0).mono ?_
    rintro e w' ⟨rfl, rfl⟩
    exact ⟨rfl, h, Below.refl B _⟩

set_option maxHeartbeats 2000000 in
set_option maxRecDepth 100000 in
theorem writeString_any (B b : Nat) (bs : List Value) (s : ByteArray) (w : World) (h : Lib.IsBuilder 92 5 B b bs w) (hlen : bs.length + s.size ≤ 140737488355328) (hBw : B ≤ w.heap.size) :
    Calls Try.prog 50 #[.pointer (some ⟨b, 0, none⟩), .string s] w fun e w' => e = .returned (.tuple #[.int .i64 s.size, .nilIface]) ∧ (Lib.BuilderAt 92 5 B b (.pointer (some ⟨b, 0, none⟩)) (bs ++ Lib.strCells s) w' ∧ Below B w w') := by
  obtain ⟨i0, hi, hz0, hz1, hz2⟩ := info_parts infoU8
  go_enter Try.func50, Try.ntmps50
  go_wp2_with (go_at_call 82; refine (chk_any B b bs _ h).mono ?_)
  rintro e w1 ⟨rfl, h1, hb1⟩
  obtain ⟨hB, v, hbk, hown, hne⟩ := h1
  have c0 : w1.cell? ⟨b, 0, none⟩ = some (.pointer (some ⟨b, 0, none⟩)) := by rw [Lib.cell_of_heap hbk]; rfl
  have c1 : w1.cell? ⟨b, 1, none⟩ = some v := by rw [Lib.cell_of_heap hbk]; rfl
  go_wp2_with (at_builtin; refine Lib.wpList_append_own_string _ rfl _ _ 90 9 rfl B 5 i0 Try.underlying90 Try.underlying9 hi hz0 hz1 hz2 _ _ _ rfl hown s rfl ?c3 ?c4 ?c5 ?_)
  case c3 => unfold maxLen; omega
  case c4 => omega
  case c5 => have := hb1.size; omega
  intro v' w2 hown' hgrow _
  have hlt : b < w1.heap.size := by
    rcases Nat.lt_or_ge b w1.heap.size with h' | h'
    · exact h'
    · simp [Array.getElem?_eq_none h'] at hbk
  have hb2 : w2.heap[b]? = some (.cells #[.pointer (some ⟨b, 0, none⟩), v] 92 (0, 0)) := by
    rw [hgrow.block b hlt (fun e => hne e.symm)]
    exact hbk
  have d0 : w2.cell? ⟨b, 0, none⟩ = some (.pointer (some ⟨b, 0, none⟩)) := by rw [Lib.cell_of_heap hb2]; rfl
  have d1 : w2.cell? ⟨b, 1, none⟩ = some v := by rw [Lib.cell_of_heap hb2]; rfl
  have f1 : w2.frozen? ⟨b, 1, none⟩ = false := Lib.frozen_of_heap hb2 1
  obtain ⟨ao, n', cap, rfl⟩ : ∃ ao n' cap, v' = .slice ao n' cap := by
    rcases hown'.2 with ⟨hv, _⟩ | ⟨g, cap, cur, hv, _⟩
    · exact ⟨_, _, _, hv⟩
    · exact ⟨_, _, _, hv⟩
  go_wp2
  go_ret2
  refine ⟨rfl, ?_, ?_⟩
  · exact Lib.BuilderAt.put (T := 92) (e := 5) hB hb2 (bs' := bs ++ Lib.strCells s) (by simpa [Lib.strCells_length] using hown') (by decide)
  · exact (hb1.grown hgrow (by have := hb1.size; omega) (fun k hk => (hown.lt k hk).1)).setCell (p := ⟨b, 1, none⟩) hB _

theorem kext : Builder.Extra Try.prog Try.kstring_ren where
  sizeBuilder := by kernel_rfl
  liesBuilder := by kernel_rfl
  t5 := Try.underlying5
  a5 := Try.isAgg5
  z5 := Try.sizeOf5
  v5 := Try.zeroValue5
  infoByte := by kernel_rfl
  cellsByte := by kernel_rfl
  sizeByte := by kernel_rfl
  neB5 := by decide
theorem string_any (B b : Nat) (l : List UInt8) (w : World) (h : Lib.IsBuilder 92 5 B b (Lib.byteCells l) w) (hBw : B ≤ w.heap.size) :
    Calls Try.prog 51 #[.pointer (some ⟨b, 0, none⟩)] w fun e w' => e = .returned (.string ⟨l.toArray⟩) ∧ Below B w w' := Any.Builder_String_any Try.kstring kext B b l w h hBw

end Go.Proofs.Ytojjdnfkcigdbaa
namespace Go.Proofs.Ytojjdnfkcigdbaa
open Go.RowKit

/-- a builder: its block b, its row v from base B on -/
def Bld (b B : Nat) (v : Value) (bs : List Value) (W : World) : Prop :=
  (∃ p, (p = .pointer none ∨ p = .pointer (some ⟨b, 0, none⟩)) ∧ W.heap[b]? = some (.cells #[p, v] 92 (0, 0))) ∧ W.ownsRow B 5 1 v bs.length bs ∧ v.ownBlock ≠ some b
theorem Bld.lt {b B : Nat} {v : Value} {bs : List Value} {W : World} (h : Bld b B v bs W) : b < W.heap.size := by
  obtain ⟨⟨p, _, h⟩, _⟩ := h
  exact (Array.getElem?_eq_some_iff.1 h).1
theorem Bld.keep {S : Nat → Prop} {b B : Nat} {v : Value} {bs : List Value} {W W' : World} (h : Bld b B v bs W) (hf : Frm S W W') (hb : ¬ S b) (hv : ∀ k, v.ownBlock = some k → ¬ S k) : Bld b B v bs W' := by
  have hl := h.lt
  obtain ⟨⟨p, hp, h1⟩, h2, h3⟩ := h
  exact ⟨⟨p, hp, (hf.block b hl hb).trans h1⟩, hf.own h2 hv, h3⟩
theorem Bld.is {b B B' : Nat} {v : Value} {bs : List Value} {W : World} (h : Bld b B v bs W) (hb : B' ≤ b) (hB : B' ≤ B) : Lib.IsBuilder 92 5 B' b bs W := by
  obtain ⟨⟨p, hp, h1⟩, h2, h3⟩ := h
  have h4 : W.ownsRow B' 5 1 v bs.length bs := ⟨h2.1, by
    rcases h2.2 with h | ⟨g, cap, cur, h5, h6, h7⟩
    · exact .inl h
    · exact .inr ⟨g, cap, cur, h5, Nat.le_trans hB h6, h7⟩⟩
  rcases hp with rfl | rfl
  · exact .inl ⟨hb, v, h1, h4, h3⟩
  · exact .inr ⟨hb, v, h1, h4, h3⟩
theorem chk_bld (b B : Nat) (v : Value) (bs : List Value) (W : World) (h : Bld b B v bs W) :
    Calls Try.prog 82 #[.pointer (some ⟨b, 0, none⟩)] W fun e W' => e = .returned (.tuple #[]) ∧ W'.heap[b]? = some (.cells #[.pointer (some ⟨b, 0, none⟩), v] 92 (0, 0)) ∧ Frm (fun k => k = b) W W' := by
  obtain ⟨⟨p, hp, h1⟩, _, _⟩ := h
  rcases hp with rfl | rfl
  · refine (chk_fresh b W (by rw [Lib.cell_of_heap h1]; rfl) (by simp [World.shape?, h1]) (Lib.frozen_of_heap h1 0)).mono ?_
    rintro e W' ⟨rfl, rfl⟩
    exact ⟨rfl, heap_setCell_same _ b 0 _ _ _ h1, Frm.set _ rfl⟩
  · refine (chk_used b W (by rw [Lib.cell_of_heap h1]; rfl)).mono ?_
    rintro e W' ⟨rfl, rfl⟩
    exact ⟨rfl, h1, Frm.refl _ _⟩
set_option maxHeartbeats 2000000 in
set_option maxRecDepth 100000 in
theorem write_bld (b B : Nat) (v : Value) (bs : List Value) (s : ByteArray) (W : World) (h : Bld b B v bs W) (hlen : bs.length + s.size ≤ 140737488355328) (hBw : B ≤ W.heap.size) :
    Calls Try.prog 50 #[.pointer (some ⟨b, 0, none⟩), .string s] W fun e W' => e = .returned (.tuple #[.int .i64 s.size, .nilIface]) ∧ ∃ v', Bld b B v' (bs ++ Lib.strCells s) W' ∧ Frm (fun k => k = b ∨ v.ownBlock = some k) W W' := by
  obtain ⟨i0, hi, hz0, hz1, hz2⟩ := info_parts infoU8
  have KC := Lib.hid (chk_bld b B v bs W h)
  have H := Lib.hid h
  clear h
  go_enter Try.func50, Try.ntmps50
  go_wp2_with (go_at_call 82; refine KC.out.mono ?_)
  rintro e w1 ⟨rfl, hbk, hf1⟩
  obtain ⟨_, hown0, hne⟩ := H.out
  have hown : w1.ownsRow B 5 1 v bs.length bs := hf1.own hown0 (fun k e1 e2 => hne (e2 ▸ e1))
  have c0 : w1.cell? ⟨b, 0, none⟩ = some (.pointer (some ⟨b, 0, none⟩)) := by rw [Lib.cell_of_heap hbk]; rfl
  have c1 : w1.cell? ⟨b, 1, none⟩ = some v := by rw [Lib.cell_of_heap hbk]; rfl
  have hs1 := hf1.size
  have hlt : b < w1.heap.size := (Array.getElem?_eq_some_iff.1 hbk).1
  go_wp2_with (at_builtin; refine Lib.wpList_append_own_string _ rfl _ _ 90 9 rfl B 5 i0 Try.underlying90 Try.underlying9 hi hz0 hz1 hz2 _ _ _ rfl hown s rfl ?c3 ?c4 ?c5 ?_)
  case c3 => unfold maxLen; omega
  case c4 => omega
  case c5 => omega
  intro v' w2 hown' hgrow _
  have hb2 : w2.heap[b]? = some (.cells #[.pointer (some ⟨b, 0, none⟩), v] 92 (0, 0)) := by
    rw [hgrow.block b hlt (fun e => hne e.symm)]
    exact hbk
  have d0 : w2.cell? ⟨b, 0, none⟩ = some (.pointer (some ⟨b, 0, none⟩)) := by rw [Lib.cell_of_heap hb2]; rfl
  have d1 : w2.cell? ⟨b, 1, none⟩ = some v := by rw [Lib.cell_of_heap hb2]; rfl
  have f1 : w2.frozen? ⟨b, 1, none⟩ = false := Lib.frozen_of_heap hb2 1
  have hv'b : v'.ownBlock ≠ some b := row_neD hown' hb2 (by decide)
  obtain ⟨ao, n', cap, rfl⟩ : ∃ ao n' cap, v' = .slice ao n' cap := by
    rcases hown'.2 with ⟨hv, _⟩ | ⟨g, cap, cur, hv, _⟩
    · exact ⟨_, _, _, hv⟩
    · exact ⟨_, _, _, hv⟩
  go_wp2
  go_ret2
  have hF : Frm (fun k => k = b) w2 (w2.setCell ⟨b, 1, none⟩ (.slice ao n' cap)) := Frm.set _ rfl
  refine ⟨rfl, .slice ao n' cap, ⟨⟨_, .inr rfl, heap_setCell_same _ b 1 _ _ _ hb2⟩, ?_, hv'b⟩, ?_⟩
  · have := hF.own hown' (fun k e1 e2 => hv'b (e2 ▸ e1))
    simpa [Lib.strCells_length] using this
  · exact ((hf1.mono (fun k e => .inl e)).trans (Frm.grown hgrow (fun k e => .inr e))).trans (hF.mono (fun k e => .inl e))
end Go.Proofs.Ytojjdnfkcigdbaa
namespace Go.Proofs.Ytojjdnfkcigdbaa
open Go.RowKit Go.Shelf

theorem frm_freeze (W : World) (p : Addr) (n : Nat) : Frm (fun k => k = p.block) W (W.freeze p n) := by
  unfold World.freeze
  split
  · exact Frm.refl _ _
  · refine ⟨rfl, rfl, rfl, by simp, fun k hk hn => ?_⟩
    simp only [Array.getElem?_modify]
    rw [if_neg (fun e => hn e.symm)]
set_option maxHeartbeats 2000000 in
set_option maxRecDepth 100000 in
theorem str_bld (b B : Nat) (v : Value) (l : List UInt8) (W : World) (h : Bld b B v (Lib.byteCells l) W) :
    Calls Try.prog 51 #[.pointer (some ⟨b, 0, none⟩)] W fun e W' => e = .returned (.string ⟨l.toArray⟩) ∧ Frm (fun k => v.ownBlock = some k) W W' := by
  have hlt := h.lt
  obtain ⟨⟨p, _, hbk⟩, hown, hne⟩ := h
  by_cases h0 : l = []
  · subst h0
    have key : Calls Try.prog 51 #[.pointer (some ⟨b, 0, none⟩)] W fun e w' => e = .returned (.string ⟨#[]⟩) ∧ Below W.heap.size W w' := by
      rcases hown.2 with ⟨rfl, _⟩ | ⟨g, cap, cur, rfl, hbg, hg, _⟩
      · exact Any.Builder_String_nil Try.kstring kext W.heap.size b p W hbk
      · by_cases hc0 : cap = 0
        · subst hc0
          exact Any.Builder_String_noroom Try.kstring kext W.heap.size b g p cur W (Nat.le_refl _) hbk hg
        · exact Any.Builder_String_room Try.kstring kext W.heap.size b g cap p W hc0 hbk
    refine key.mono ?_
    rintro e W' ⟨rfl, hb⟩
    exact ⟨rfl, Frm.below hb⟩
  · have hl0 : l.length ≠ 0 := by simpa using h0
    rw [Lib.byteCells_length] at hown
    obtain ⟨g, cap, cur, rfl, hg, hnc, hcm, hcs⟩ : ∃ g cap cur, v = .slice (some ⟨g, 0, none⟩) l.length cap ∧ W.heap[g]? = some (.cells cur 5 (0, 0)) ∧ l.length ≤ cap ∧ cap ≤ maxLen ∧ cur.size = cap * 1 := by
      rcases hown.2 with ⟨_, hz⟩ | ⟨g, cap, cur, hv, _, r1, r2, r3, r4, _⟩
      · exact absurd hz hl0
      · exact ⟨g, cap, cur, hv, r1, r2, r3, r4⟩
    have c1 : W.drew.cell? ⟨b, 1, none⟩ = some (.slice (some ⟨g, 0, none⟩) l.length cap) := by
      have : W.drew.heap[b]? = some (.cells #[p, .slice (some ⟨g, 0, none⟩) l.length cap] 92 (0, 0)) := hbk
      rw [Lib.cell_of_heap this]; rfl
    have hSD : (Builtin.unsafeSliceData_ #[90] 128 #[.slice (some ⟨g, 0, none⟩) l.length cap]).run Try.prog W.drew = .ok (.pointer (some ⟨g, 0, none⟩)) W.drew :=
      Lib.run_unsafeSliceData_row _ _ _ _ _ _ (by omega)
    have hUS : (Builtin.unsafeString_ #[128, 3] 9 #[.pointer (some ⟨g, 0, none⟩), .int .i64 l.length]).run Try.prog W.drew = .ok (.string ⟨l.toArray⟩) (W.drew.freeze ⟨g, 0, none⟩ l.length) := by
      refine Lib.run_unsafeString_row W.drew 128 3 9 5 Try.underlying128 (by kernel_rfl) g cur.size (by have hg' : W.drew.heap[g]? = some (.cells cur 5 (0, 0)) := hg; simp [World.shape?, hg']) l h0 (by omega) (by unfold maxLen at hcm; omega) ?_
      intro j x hx
      have := hown.cells (g := g) rfl j (.int .u8 x.toNat) (by simp [Lib.byteCells, hx])
      exact this
    have c0 : W.cell? ⟨b, 1, none⟩ = some (.slice (some ⟨g, 0, none⟩) l.length cap) := c1
    go_enter Try.func51, Try.ntmps51
    go_wp2
    go_region
    all_goals
      go_wp2
      go_ret
      refine ⟨rfl, ?_⟩
      exact (Frm.drewN _ W 1).trans ((frm_freeze W.drew ⟨g, 0, none⟩ l.length).mono (fun k e => by rw [e]; rfl))
end Go.Proofs.Ytojjdnfkcigdbaa
namespace Go.Proofs.Ytojjdnfkcigdbaa
open Go.RowKit Go.Shelf Go.Lib
attribute [local go_sem] Oper.semAt_some

/-- a node's text, if it is one -/
def txtN (ns : List Nd) (n : Int) : List UInt8 := if atN ns n Nd.kind 0 == 3 then (atN ns n Nd.data ⟨#[]⟩).data.toList else []
def txts (ns : List Nd) (o : List (Int × Nat)) : List UInt8 := o.flatMap (fun x => txtN ns x.1)
/-- what the law of the range keeps: the boxes, the tree, the builder -/
structure WI (w : World) (D : Nat) (base : Nat) (v : Value) (qk : Bool) (ns : List Nd) (l : List UInt8) (W : World) : Prop where
  bw : Below w.heap.size w W
  bd : W.heap[w.heap.size]? = some (.cells #[.pointer (some ⟨D, 0, none⟩)] 24 (0, 0))
  bd2 : W.heap[w.heap.size + 2]? = some (.cells #[.pointer (some ⟨D, 0, none⟩)] 24 (0, 0))
  doc : DocM base D v qk ns W
  dlt : ∀ k, DB D v ns k → k < w.heap.size
  bld : ∃ vb, Bld (w.heap.size + 1) (w.heap.size + 9) vb (Lib.byteCells l) W
section
variable {w : World} {D base : Nat} {v : Value} {qk : Bool} {ns : List Nd} {l : List UInt8} {W W' : World}
/-- what turns lies beyond, and is not the builder's row -/
theorem WI.keep {S : Nat → Prop} (h : WI w D base v qk ns l W) (hf : Frm S W W') (hS : ∀ k, S k → w.heap.size + 4 ≤ k) (hr : ∀ k vb, Bld (w.heap.size + 1) (w.heap.size + 9) vb (Lib.byteCells l) W → vb.ownBlock = some k → ¬ S k) : WI w D base v qk ns l W' := by
  obtain ⟨vb, hb⟩ := h.bld
  have hs := h.bw.size
  exact ⟨h.bw.trans (hf.toBelow hs (fun k hk => by have := hS k hk; omega)), (hf.block _ (Array.getElem?_eq_some_iff.1 h.bd).1 (fun e => by have := hS _ e; omega)).trans h.bd, (hf.block _ (Array.getElem?_eq_some_iff.1 h.bd2).1 (fun e => by have := hS _ e; omega)).trans h.bd2, h.doc.keep hf (fun k hk e => by have := h.dlt k hk; have := hS k e; omega), h.dlt, vb, hb.keep hf (fun e => by have := hS _ e; omega) (fun k e => hr k vb hb e)⟩
theorem WI.own {f : List (Int × Nat) → List UInt8} {B : Nat} (hB : B = w.heap.size + 4) : OwnFrom B (fun s W => WI w D base v qk ns (f s) W) := by
  rintro s X Y row h hg hr
  refine h.keep (S := fun k => row = some k) (Frm.grown hg (fun k e => e)) (fun k e => by have := (hr k e).1; omega) (fun k vb hb e1 e2 => ?_)
  obtain ⟨_, o, ho, hc⟩ := hr k e2
  rcases hb.2.1.2 with ⟨h1, _⟩ | ⟨g, cap, cur, h1, _, hg2, _⟩
  · rw [h1] at e1; cases e1
  · rw [h1] at e1
    simp [Value.ownBlock] at e1
    subst e1
    rw [hg2] at ho
    cases ho
    cases hc
theorem WI.abides {f : List (Int × Nat) → List UInt8} {B : Nat} (hB : B = w.heap.size + 6) : AbidesE B 3 (fun s W => WI w D base v qk ns (f s) W) := by
  rintro s X Y row h hg hr
  refine h.keep (S := fun k => row = some k) (Frm.grown hg (fun k e => e)) (fun k e => by have := (hr k e).1; omega) (fun k vb hb e1 e2 => ?_)
  have := (hr k e2).2
  have := (hb.2.1.lt k e1).1
  omega
/-- the builder has grown -/
theorem WI.wrote {l' : List UInt8} {vb vb' : Value} (h : WI w D base v qk ns l W) (hb : Bld (w.heap.size + 1) (w.heap.size + 9) vb (Lib.byteCells l) W) (hb' : Bld (w.heap.size + 1) (w.heap.size + 9) vb' (Lib.byteCells l') W') (hf : Frm (fun k => k = w.heap.size + 1 ∨ vb.ownBlock = some k) W W') :
    WI w D base v qk ns l' W' ∧ KeepsOthers W W' ∧ KpW (w.heap.size + 2) base D v qk ns (w.heap.size + 6) W W' := by
  have hs := h.bw.size
  have hr : ∀ k, (k = w.heap.size + 1 ∨ vb.ownBlock = some k) → k = w.heap.size + 1 ∨ w.heap.size + 9 ≤ k := fun k e => by
    rcases e with e | e
    · exact .inl e
    · exact .inr (hb.2.1.lt k e).1
  have hdoc : DocM base D v qk ns W → DocM base D v qk ns W' := fun hd => hd.keep hf (fun k hk e => by have := h.dlt k hk; rcases hr k e with e | e <;> omega)
  have hbd2 : W'.heap[w.heap.size + 2]? = W.heap[w.heap.size + 2]? := hf.block _ (Array.getElem?_eq_some_iff.1 h.bd2).1 (fun e => by rcases hr _ e with e | e <;> omega)
  refine ⟨⟨h.bw.trans (hf.toBelow hs (fun k hk => by rcases hr k hk with e | e <;> omega)), (hf.block _ (Array.getElem?_eq_some_iff.1 h.bd).1 (fun e => by rcases hr _ e with e | e <;> omega)).trans h.bd, hbd2.trans h.bd2, hdoc h.doc, h.dlt, vb', hb'⟩, ⟨hf.size, fun k o hk ho => ?_⟩, hf.size, fun k h1 h2 h3 => hf.block k h3 (fun e => by rcases hr k e with e | e <;> omega), fun hd => ⟨hbd2.trans hd.bd, hdoc hd.doc⟩⟩
  refine (hf.block k (Array.getElem?_eq_some_iff.1 hk).1 (fun e => ?_)).trans hk
  rcases e with e | e
  · obtain ⟨⟨p, _, h1⟩, _⟩ := hb
    rw [e, h1] at hk
    cases hk
    cases ho
  · rcases hb.2.1.2 with ⟨h1, _⟩ | ⟨g, cap, cur, h1, _, hg2, _⟩
    · rw [h1] at e; cases e
    · rw [h1] at e
      simp [Value.ownBlock] at e
      subst e
      rw [hg2] at hk
      cases hk
      cases ho
end
end Go.Proofs.Ytojjdnfkcigdbaa
namespace Go.Proofs.Ytojjdnfkcigdbaa
open Go.RowKit Go.Shelf Go.Lib
attribute [local go_sem] Oper.semAt_some

section
variable {base D : Nat} {v : Value} {qk : Bool} {ns : List Nd}
theorem txts_len {ns : List Nd} (hz : ∀ z ∈ ns, z.data.size ≤ 1000000) : ∀ o : List (Int × Nat), (txts ns o).length ≤ o.length * 1000000
  | [] => by simp [txts]
  | x :: o => by
    have ih := txts_len hz o
    have h1 : (txtN ns x.1).length ≤ 1000000 := by
      unfold txtN
      split
      · cases hq : inN ns x.1 with
        | false => rw [atN_none hq]; simp
        | true =>
          obtain ⟨i, z, e, hi⟩ := inN_at hq
          rw [e, atN_some hi]
          have := hz z (List.mem_of_getElem? hi)
          simpa using this
      · simp
    have h2 : txts ns (x :: o) = txtN ns x.1 ++ txts ns o := rfl
    rw [h2, List.length_append, List.length_cons]
    omega
/-- the blocks of a tree are cells -/
theorem DocM.isCells {W : World} (h : DocM base D v qk ns W) : ∀ k, DB D v ns k → ∃ cur t, W.heap[k]? = some (.cells cur t (0, 0)) := by
  have row : ∀ {b e sz m : Nat} {u : Value} {vs : List Value}, W.ownsRow b e sz u m vs → ∀ k, u.ownBlock = some k → ∃ cur t, W.heap[k]? = some (.cells cur t (0, 0)) := by
    intro b e sz m u vs ho k hk
    rcases ho.2 with ⟨h1, _⟩ | ⟨g, cap, cur, h1, _, hg, _⟩
    · rw [h1] at hk; cases hk
    · rw [h1] at hk
      simp [Value.ownBlock] at hk
      subst hk
      exact ⟨cur, _, hg⟩
  rintro k (rfl | e | ⟨i, x, hx, e | e⟩)
  · exact ⟨_, _, h.hd⟩
  · exact row h.row k e
  · exact row (h.kids i x hx) k e
  · exact row (h.attrs i x hx) k e
set_option maxRecDepth 100000 in
set_option maxHeartbeats 4000000 in
theorem words_any (n : Int) (w : World) (h : DocM base D v qk ns w) (hl : ns.length ≤ 100000) (hz : ∀ z ∈ ns, z.data.size ≤ 1000000) (o : List (Int × Nat)) (lf : Nat) (b : Bool) (hvis : Vis ns ns.length (kdN ns (srcN ns n)) 1 o lf b) :
    Calls Try.prog 19 #[.pointer (some ⟨D, 0, none⟩), .int .i64 n] w fun e w' => e = .returned (.string ⟨(txts ns o).toArray⟩) ∧ Below w.heap.size w w' := by
  refine (callsIn_wide (n := 9)).1 ?_
  refine callsIn_of_wp_marks Try.func19 rfl trivial ?_ rfl
  simp only [Try.ntmps19, List.size_toArray, List.length_cons, List.length_nil, Nat.reduceAdd, Nat.reduceSub, Array.replicate_succ, Array.replicate_zero, List.push_toArray, List.append_toArray, List.nil_append, List.cons_append]
  have KW := Lib.hid (fun W => walk_any D n W)
  have hdlt : ∀ k, DB D v ns k → k < w.heap.size := fun k hk => (h.in_ k hk).2
  have H := Lib.hid h
  have HV := Lib.hid hvis
  have HZ := Lib.hid hz
  have HD := Lib.hid hdlt
  clear h hvis hz hdlt
  refine wpIn_wide.2 ?_
  go_wp2_with fail
  refine (KW.out _).mono ?_
  rintro e w3 ⟨rfl, rfl⟩
  obtain ⟨W4, hW4⟩ : ∃ W4, (((w.alloc (.cells #[.pointer (some ⟨D, 0, none⟩)] 24)).alloc (.cells #[.pointer none, .slice none 0 0] 92)).alloc (.cells #[.pointer (some ⟨D, 0, none⟩)] 24)).alloc (.cells #[.int .i64 n] 3) = W4 := ⟨_, rfl⟩
  have hs4 : W4.heap.size = w.heap.size + 4 := by rw [← hW4]; simp
  have hb4 : Below w.heap.size w W4 := by rw [← hW4]; exact ((((Below.refl _ w).alloc (Nat.le_refl _) _).alloc (by simp) _).alloc (by simp; omega) _).alloc (by simp; omega) _
  have g0 : W4.heap[w.heap.size]? = some (.cells #[.pointer (some ⟨D, 0, none⟩)] 24 (0, 0)) := by
    rw [← hW4, Below.heap_alloc _ _ _ (by first | (simp; done) | (simp; omega)), Below.heap_alloc _ _ _ (by first | (simp; done) | (simp; omega)), Below.heap_alloc _ _ _ (by first | (simp; done) | (simp; omega))]
    exact heap_alloc_new w _
  have g1 : W4.heap[w.heap.size + 1]? = some (.cells #[.pointer none, .slice none 0 0] 92 (0, 0)) := by
    rw [← hW4, Below.heap_alloc _ _ _ (by first | (simp; done) | (simp; omega)), Below.heap_alloc _ _ _ (by first | (simp; done) | (simp; omega))]
    have := heap_alloc_new (w.alloc (.cells #[.pointer (some ⟨D, 0, none⟩)] 24)) (.cells #[.pointer none, .slice none 0 0] 92)
    simpa using this
  have g2 : W4.heap[w.heap.size + 2]? = some (.cells #[.pointer (some ⟨D, 0, none⟩)] 24 (0, 0)) := by
    rw [← hW4, Below.heap_alloc _ _ _ (by first | (simp; done) | (simp; omega))]
    have := heap_alloc_new ((w.alloc (.cells #[.pointer (some ⟨D, 0, none⟩)] 24)).alloc (.cells #[.pointer none, .slice none 0 0] 92)) (.cells #[.pointer (some ⟨D, 0, none⟩)] 24)
    simpa using this
  have g3 : W4.heap[w.heap.size + 3]? = some (.cells #[.int .i64 n] 3 (0, 0)) := by
    rw [← hW4]
    have := heap_alloc_new (((w.alloc (.cells #[.pointer (some ⟨D, 0, none⟩)] 24)).alloc (.cells #[.pointer none, .slice none 0 0] 92)).alloc (.cells #[.pointer (some ⟨D, 0, none⟩)] 24)) (.cells #[.int .i64 n] 3)
    simpa using this
  have hd4 := H.out.below hb4
  have hWI : WI w D base v qk ns [] W4 := ⟨hb4, g0, g2, hd4, HD.out, .slice none 0 0, ⟨_, .inl rfl, g1⟩, World.ownsRow_nil _ _ _ _, by simp [Value.ownBlock]⟩
  have hSrc : SrcD (w.heap.size + 2) base D v qk ns W4 := ⟨g2, hd4⟩
  have hSE := iterW_e 8 (by omega) n o lf b HV.out (by omega) W4 hSrc g3
  have hz2 : ((w.alloc (.cells #[.pointer (some ⟨D, 0, none⟩)] 24)).alloc (.cells #[.pointer none, .slice none 0 0] 92)).heap.size = w.heap.size + 1 + 1 := by simp
  rw [hz2, hW4]
  have HWI := Lib.hid hWI
  have HSE := Lib.hid hSE
  have hEb : W4.heap.size + 2 = w.heap.size + 6 := by omega
  clear hz2 hW4 hb4 g0 g1 g2 g3 hd4 hWI hSrc hSE H HV KW
  go_wp2
  refine (wpIn_wide (n := 9)).1 ?_
  refine range_E rfl (enters_of Try.func46 (by kernel_rfl) rfl) HSE.out
    (fun h1 h2 => ⟨Nat.le_trans h1.1 h2.1, fun k a1 a2 a3 => (h2.2.1 k a1 a2 (Nat.lt_of_lt_of_le a3 h1.1)).trans (h1.2.1 k a1 a2 a3), fun hs => h2.2.2 (h1.2.2 hs)⟩)
    (fun B W l o o' hlB hlo hoc => ⟨by simp, fun k a1 a2 a3 => World.putObj_heap_other (by omega), fun hs => hs.keep (S := fun k => k = l) (Frm.grown (grownBy_putObj' W l o') (fun k e => by cases e; rfl)) (fun e => by
      have := hs.bd
      rw [e, hlo] at this
      cases this
      cases hoc) (fun k hk e => by
      subst e
      obtain ⟨cur, t, h2⟩ := hs.doc.isCells k hk
      rw [hlo] at h2
      cases h2
      cases hoc)⟩)
    (fun _ => rfl)
    (fun pre W => WI w D base v qk ns (txts ns pre) W)
    (fun _ _ _ => False)
    (WI.own hs4) (fun _ => fun _ _ _ _ h _ _ => h) (WI.abides hEb) (fun _ => fun _ _ _ _ h _ _ => h) HWI.out ?a1 ?assign ?body ?done ?stop
  case assign =>
    intro l x W K hK
    gi_wp2
    exact hK
  case body =>
    rintro l pre ⟨k, d⟩ W hI hlt2 hsz
    obtain ⟨vb, hbld⟩ := hI.bld
    have HI := Lib.hid hI
    have HBL := Lib.hid hbld
    have cb : W.cell? ⟨w.heap.size, 0, none⟩ = some (.pointer (some ⟨D, 0, none⟩)) := by rw [cell_of_row _ _ _ _ _ _ hI.bd]; rfl
    have KK := Lib.hid (kind_any k W hI.doc)
    obtain ⟨kz, hkz⟩ : ∃ k', atN ns k Nd.kind 0 = k' := ⟨_, rfl⟩
    rw [hkz] at KK
    by_cases h3 : kz = 3
    · have d3 : (kz == 3) = true := by rw [h3]; rfl
      have hin : inN ns k = true := by
        cases hq : inN ns k with
        | true => rfl
        | false => rw [atN_none hq] at hkz; omega
      obtain ⟨q, z, rfl, hzq⟩ := inN_at hin
      have hql := (List.getElem?_eq_some_iff.1 hzq).1
      obtain ⟨Av, c, hv, _, _, hgv⟩ := hI.doc.sl
      obtain ⟨g, rfl, _, _⟩ := hgv (by omega)
      subst hv
      obtain ⟨c0, _, _⟩ := hI.doc.cells
      have cd : W.cell? ⟨g, q * 10 + 3, none⟩ = some (.string z.data) := hI.doc.cell hzq (by omega)
      have htx : Lib.byteCells (txts ns (pre ++ [((q : Int), d)])) = Lib.byteCells (txts ns pre) ++ Lib.strCells z.data := by
        have e1 : txts ns (pre ++ [((q : Int), d)]) = txts ns pre ++ z.data.data.toList := by
          unfold txts
          rw [List.flatMap_append]
          congr 1
          show txtN ns (q : Int) ++ [] = _
          unfold txtN
          rw [hkz, d3, if_pos rfl, List.append_nil]
          exact congrArg (fun s : ByteArray => s.data.toList) (atN_some hzq)
        rw [e1, Lib.strCells_eq]
        unfold Lib.byteCells
        rw [List.map_append]
      have hln := txts_len HZ.out pre
      have hzs := HZ.out z (List.mem_of_getElem? hzq)
      have KR := Lib.hid (write_bld (w.heap.size + 1) (w.heap.size + 9) vb (Lib.byteCells (txts ns pre)) z.data W hbld (by rw [Lib.byteCells_length]; omega) (by omega))
      rw [← htx] at KR
      clear hI hbld hkz h3 hin hzq hgv htx hln hzs HWI HSE
      gi_wp2_with (first
        | (refine ⟨trivial, ?_⟩; gi_at_call 13; refine (CallsIn.inRound l (callsIn_wide.2 KK.out)).mono ?_; rintro e w2 ⟨rfl, rfl⟩)
        | (refine ⟨trivial, ?_⟩; gi_at_call 50; refine (CallsIn.inRound l (callsIn_wide.2 KR.out)).mono ?_; rintro e W2 ⟨rfl, vb', hb', hf⟩))
      obtain ⟨r1, r2, r3⟩ := HI.out.wrote HBL.out hb' hf
      exact ⟨r2, by rw [hEb]; exact r3, r1⟩
    · have d3 : (kz == 3) = false := by rw [beq_eq_false_iff_ne]; exact h3
      have htx : txts ns (pre ++ [(k, d)]) = txts ns pre := by
        unfold txts
        rw [List.flatMap_append]
        show _ ++ (txtN ns k ++ []) = _
        unfold txtN
        rw [hkz, d3, if_neg (by decide)]
        simp
      have HTX := Lib.hid htx
      clear hI hbld hkz h3 htx HWI HSE
      gi_wp2_with (refine ⟨trivial, ?_⟩; gi_at_call 13; refine (CallsIn.inRound l (callsIn_wide.2 KK.out)).mono ?_; rintro e w2 ⟨rfl, rfl⟩)
      refine ⟨KeepsOthers.refl _, ⟨Nat.le_refl _, fun _ _ _ _ => rfl, fun h => h⟩, ?_⟩
      show WI w D base v qk ns (txts ns (pre ++ [(k, d)])) _
      rw [HTX.out]
      exact HI.out
  case stop =>
    rintro D2 c pre W _ _ h _
    exact h.elim
  case done =>
    rintro D2 xs W hD rfl hI hK
    obtain ⟨vb, hbld⟩ := hI.bld
    have KS := Lib.hid (str_bld (w.heap.size + 1) (w.heap.size + 9) vb (txts ns xs) W hbld)
    have HI := Lib.hid hI
    have HBL := Lib.hid hbld
    have HK := Lib.hid hK
    clear hI hbld hK HWI HSE
    go_wp2_with fail
    refine KS.out.mono ?_
    rintro e W2 ⟨rfl, hf⟩
    have hK2 : W2.heap[D2]? = some (.deferred (some [])) := (hf.block D2 (Array.getElem?_eq_some_iff.1 HK.out).1 (fun e => by
      rcases HBL.out.2.1.2 with ⟨h1, _⟩ | ⟨g, cap, cur, h1, _, hg2, _⟩
      · rw [h1] at e; cases e
      · rw [h1] at e
        simp [Value.ownBlock] at e
        subst e
        have := HK.out
        rw [hg2] at this
        cases this)).trans HK.out
    have hb2 : Below w.heap.size w W2 := HI.out.bw.trans (hf.toBelow HI.out.bw.size (fun k e => by have := (HBL.out.2.1.lt k e).1; omega))
    have HK2 := Lib.hid hK2
    have HB2 := Lib.hid hb2
    clear hK2 hb2 hf
    go_wp2
    refine ⟨by simp, .inl ⟨_, _, rfl, run_takeDeferred HK2.out, ?_⟩⟩
    refine ⟨.string _, ?_, rfl, ?_⟩
    · simp [results, Try.f19, go_sem]
    · exact HB2.out.trans ((Frm.grown (grownBy_putObj' _ D2 _) (fun k e => by cases e; rfl) : Frm (fun k => k = D2) _ _).toBelow HB2.out.size (fun k e => by omega))
end
end Go.Proofs.Ytojjdnfkcigdbaa
