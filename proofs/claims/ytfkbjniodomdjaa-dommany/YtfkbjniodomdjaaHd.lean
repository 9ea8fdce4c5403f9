/- Walk: its iterator's promise. -/
import Derived.Test.YtfkbjniodomdjaaHc
import Derived.Laws.EntriesVeiled
namespace Go.Proofs.Ytfkbjniodomdjaa
open Go.RowKit Go.Shelf Go.Lib
attribute [local go_sem] Oper.semAt_some

section
variable {Bd Bn base D : Nat} {v : Value} {qk : Bool} {ns : List Nd}
theorem walk_any (D : Nat) (n : Int) (W : World) : Calls Try.prog 17 #[.pointer (some ⟨D, 0, none⟩), .int .i64 n] W fun e W' => e = .returned (.func (.func 45) #[] #[.pointer (some ⟨W.heap.size, 0, none⟩), .pointer (some ⟨W.heap.size + 1, 0, none⟩)]) ∧ W' = (W.alloc (.cells #[.pointer (some ⟨D, 0, none⟩)] 24)).alloc (.cells #[.int .i64 n] 3) := by
  go_enter Try.func17, Try.ntmps17
  go_wp2
  go_ret
  exact ⟨rfl, rfl⟩
theorem iterW_e (nn : Nat) (hn : 1 ≤ nn) (n : Int) (o : List (Int × Nat)) (lf : Nat) (b : Bool) (hvis : Vis ns ns.length (kdN ns (srcN ns n)) 1 o lf b) (hl : ns.length ≤ 1000000) (w : World) (hs : SrcD Bd base D v qk ns w) (hbn : w.heap[Bn]? = some (.cells #[.int .i64 n] 3 (0, 0))) :
    SeqE nn Try.prog 45 #[.pointer (some ⟨Bd, 0, none⟩), .pointer (some ⟨Bn, 0, none⟩)] encW 3 (fun E => KpW Bd base D v qk ns E) (fun xs => xs = o) (fun pre => pre <+: o) (ns.length + 1) w := by
  intro l J Jx W hW hJ hJx hY h0
  obtain ⟨E, hE⟩ : ∃ E, W.heap.size = E := ⟨_, rfl⟩
  rw [hE] at hJ hJx hY
  have hsW : SrcD Bd base D v qk ns W := hs.keep (S := fun _ => False) (Frm.below hW) (fun e => e) (fun _ _ e => e)
  have hnW : W.heap[Bn]? = some (.cells #[.int .i64 n] 3 (0, 0)) := (hW.block Bn (Array.getElem?_eq_some_iff.1 hbn).1).trans hbn
  have hBd : Bd < E := by rw [← hE]; exact (Array.getElem?_eq_some_iff.1 hsW.bd).1
  have hBn : Bn < E := by rw [← hE]; exact (Array.getElem?_eq_some_iff.1 hnW).1
  have hba : Below W.heap.size W (W.alloc (.cells #[.func (.yield l) #[] #[]] 86)) := (Below.refl _ W).alloc (Nat.le_refl _) _
  have KZ := Lib.hid (size_any _ (hsW.doc.below hba))
  have cda : (W.alloc (.cells #[.func (.yield l) #[] #[]] 86)).cell? ⟨Bd, 0, none⟩ = some (.pointer (some ⟨D, 0, none⟩)) := by rw [cell_of_row _ _ _ _ _ _ ((hba.block Bd (by omega)).trans hsW.bd)]; rfl
  obtain ⟨WB, hWB⟩ : ∃ WB, ((W.alloc (.cells #[.func (.yield l) #[] #[]] 86)).alloc (.cells #[.int .i64 ns.length] 3)).alloc (.cells #[.nilFunc] 86) = WB := ⟨_, rfl⟩
  have hbB : Below W.heap.size W WB := by rw [← hWB]; exact (hba.alloc hba.size _).alloc (by simp; omega) _
  have b0 : WB.heap[E]? = some (.cells #[.func (.yield l) #[] #[]] 86 (0, 0)) := by
    rw [← hWB, Below.heap_alloc _ _ _ (by simp; omega), Below.heap_alloc _ _ _ (by simp; omega), ← hE]
    exact heap_alloc_new W _
  have b1 : WB.heap[E + 1]? = some (.cells #[.int .i64 ns.length] 3 (0, 0)) := by
    rw [← hWB, Below.heap_alloc _ _ _ (by simp; omega), ← hE]
    have := heap_alloc_new (W.alloc (.cells #[.func (.yield l) #[] #[]] 86)) (.cells #[.int .i64 ns.length] 3)
    simpa using this
  have b2 : WB.heap[E + 1 + 1]? = some (.cells #[.nilFunc] 86 (0, 0)) := by
    rw [← hWB, ← hE]
    have := heap_alloc_new ((W.alloc (.cells #[.func (.yield l) #[] #[]] 86)).alloc (.cells #[.int .i64 ns.length] 3)) (.cells #[.nilFunc] 86)
    simpa using this
  have cF : WB.cell? ⟨E + 1 + 1, 0, none⟩ = some .nilFunc := by rw [cell_of_row _ _ _ _ _ _ b2]; rfl
  have fF : WB.frozen? ⟨E + 1 + 1, 0, none⟩ = false := by simp [World.frozen?, b2]
  obtain ⟨W4, hW4⟩ : ∃ W4, WB.setCell ⟨E + 1 + 1, 0, none⟩ (.func (.func 47) #[] #[.pointer (some ⟨Bd, 0, none⟩), .pointer (some ⟨E + 1, 0, none⟩), .pointer (some ⟨E, 0, none⟩), .pointer (some ⟨E + 1 + 1, 0, none⟩)]) = W4 := ⟨_, rfl⟩
  have hF4 : Frm (fun k => k = E + 1 + 1) WB W4 := by rw [← hW4]; exact Frm.set _ rfl
  have hzB : WB.heap.size = E + 3 := by rw [← hWB]; simp; omega
  have hvm : VM Bd base D v qk ns E l ns.length W4 := by
    refine ⟨(hsW.keep (S := fun _ => False) (Frm.below hbB) (fun e => e) (fun _ _ e => e)).keep hF4 (by omega) (fun k hk e => by have := (hsW.doc.in_ k hk).2; omega), (hF4.block E (by omega) (by omega)).trans b0, (hF4.block (E + 1) (by omega) (by omega)).trans b1, ?_, hBd, fun k hk => by have := (hsW.doc.in_ k hk).2; omega⟩
    rw [← hW4]
    exact heap_setCell_same _ _ 0 _ _ _ b2
  have hj4 : J [] W4 := by
    have h1 : J [] WB := hJ _ _ _ none h0 ⟨hbB.os, hbB.tape, hbB.output, hbB.size, fun k hk _ => hbB.block k hk⟩ (fun _ e => by cases e)
    refine hJ _ _ _ (some (E + 1 + 1)) h1 ?_ (fun r e => by cases e; omega)
    rw [← hW4]
    exact grown_setCellM WB ⟨E + 1 + 1, 0, none⟩ _
  have hn4 : W4.cell? ⟨Bn, 0, none⟩ = some (.int .i64 n) := by rw [cell_of_row _ _ _ _ _ _ ((hF4.block Bn (by omega) (by omega)).trans ((hbB.block Bn (by omega)).trans hnW))]; rfl
  have cv4 : W4.cell? ⟨E + 1 + 1, 0, none⟩ = some (.func (.func 47) #[] #[.pointer (some ⟨Bd, 0, none⟩), .pointer (some ⟨E + 1, 0, none⟩), .pointer (some ⟨E, 0, none⟩), .pointer (some ⟨E + 1 + 1, 0, none⟩)]) := (hvm.cells).2.2.2.2.1
  have HV := visit_in nn hn l (ns.length + 1) J Jx hJ hY ns.length n 1 [] o lf b W4 hvis hvm hj4 (by simp) hl (by omega)
  simp only [List.nil_append] at HV
  have HV : CallsIn Fence.wide nn Try.prog 47 #[.int .i64 n, .int .i64 1, .pointer (some ⟨Bd, 0, none⟩), .pointer (some ⟨E + 1, 0, none⟩), .pointer (some ⟨E, 0, none⟩), .pointer (some ⟨E + 1 + 1, 0, none⟩)] W4 _ := HV
  have HV := Lib.hid HV
  clear hvis hs hbn hsW hnW hY hJ h0 hba hbB b0 b1 b2 hF4 hvm hj4
  refine callsIn_of_wp Try.func45 rfl trivial ?_ rfl
  simp only [Try.ntmps45, List.size_toArray, List.length_cons, List.length_nil, Nat.reduceAdd, Nat.reduceSub, Array.replicate_succ, Array.replicate_zero, List.push_toArray, List.append_toArray, List.nil_append, List.cons_append]
  gi_wp2_with (first | (refine ⟨trivial, ?_⟩; gi_at_call 46; refine (callsIn_wide.2 KZ.out).mono ?_; rintro e w2 ⟨rfl, rfl⟩) | (refine ⟨trivial, ?_⟩; gi_at_call 47; refine (callsIn_wide.2 (callsIn_wide.1 HV.out)).mono ?_; rintro e W5 h5; obtain ⟨r, rfl⟩ : ∃ r, e = .returned (.bool r) := (by rcases h5 with ⟨h, _⟩ | ⟨h, _⟩ <;> exact ⟨_, h⟩); have H5 := Lib.hid h5; clear h5))
  go_end0
  refine ⟨⟨_, rfl⟩, ?_⟩
  rcases H5.out with ⟨_, h, _⟩ | ⟨_, o', h1, h2⟩
  · exact .inl ⟨_, rfl, h⟩
  · exact .inr ⟨_, h1, h2⟩
end
end Go.Proofs.Ytfkbjniodomdjaa
