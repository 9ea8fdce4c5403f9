/- The document's example of layer 11. -/
import Derived.Test.YtfkbjniodomdjaaSl
import Derived.Test.YtfkbjniodomdjaaSm
namespace Go.Proofs.Ytfkbjniodomdjaa
open Go.RowKit Go.Lib

def sHtml : ByteArray := ⟨#[104, 116, 109, 108]⟩
def sP : ByteArray := ⟨#[112]⟩
def sTable : ByteArray := ⟨#[116, 97, 98, 108, 101]⟩
def nmH : List Nam := [(sHtml, 0), (sP, 0), (sTable, 0)]
theorem nmH_plain : ∀ x ∈ nmH, tplB (mdN x) = false := by
  intro x hx
  simp only [nmH, List.mem_cons, List.not_mem_nil, or_false] at hx
  rcases hx with rfl | rfl | rfl <;> kernel_rfl
theorem head_val {ns : List Nd} {xs : List Int} (h : MadeR nmH 3 ns xs) : lookB (fun n => isN ns n [sP]) (bUs ns) xs.reverse = false := by
  obtain ⟨h1, _, h3⟩ := h
  obtain ⟨i, nd, a1, a2, a3, a4, a5⟩ := h3 2 (sTable, 0) (by omega) rfl
  match xs, h1 with
  | [a, b, c], _ =>
    simp at a1
    subst a1
    have e1 : isN ns (i : Int) [sP] = false := by
      unfold isN
      rw [atN_some a2, a3, a4, a5]
      kernel_rfl
    have e2 : bUs ns (i : Int) = true := by
      unfold bUs isN
      rw [atN_some a2, a3, a4, a5, show ((2 : Int) == 2 && spc (sTable, (0 : Int)).2 == 0 && amg usS (sTable, (0 : Int)).1) = true by kernel_rfl, Bool.true_or]
    simp [lookB, e1, e2]
theorem rdM_new (W : World) : RdM (W.alloc (.cells #[.string sHtml, .int .i64 0, .string sP, .int .i64 0, .string sTable, .int .i64 0] 67)) (some ⟨W.heap.size, 0, none⟩) nmH := by
  refine .inr ⟨W.heap.size, 0, rfl, by rw [World.size_alloc]; omega, fun i x hx => ?_⟩
  have g := heap_alloc_new W (.cells #[.string sHtml, .int .i64 0, .string sP, .int .i64 0, .string sTable, .int .i64 0] 67)
  match i, hx with
  | 0, hx => cases hx; exact ⟨by rw [cell_of_row _ _ _ _ _ _ g]; rfl, by rw [cell_of_row _ _ _ _ _ _ g]; rfl⟩
  | 1, hx => cases hx; exact ⟨by rw [cell_of_row _ _ _ _ _ _ g]; rfl, by rw [cell_of_row _ _ _ _ _ _ g]; rfl⟩
  | 2, hx => cases hx; exact ⟨by rw [cell_of_row _ _ _ _ _ _ g]; rfl, by rw [cell_of_row _ _ _ _ _ _ g]; rfl⟩
  | i + 3, hx => simp [nmH] at hx
set_option maxHeartbeats 1000000 in
theorem head11_any (W : World) : Calls Try.prog 29 #[] W fun e W' => e = .returned (.bool true) ∧ Below W.heap.size W W' := by
  have hb1 : Below W.heap.size W (W.alloc (.cells #[.string sHtml, .int .i64 0, .string sP, .int .i64 0, .string sTable, .int .i64 0] 67)) := (Below.refl _ W).alloc (Nat.le_refl _) _
  have KM := Lib.hid (made_any nmH (some ⟨W.heap.size, 0, none⟩) 3 _ (rdM_new W) (by decide) nmH_plain)
  have HB1 := Lib.hid hb1
  clear hb1
  unfold sHtml sP sTable at KM HB1
  rw [show nmH.length = 3 from rfl] at KM
  go_enter Try.func29, Try.ntmps29
  go_wp2_with fail
  refine KM.out.mono ?_
  rintro e w1 ⟨T, D, v, va, ns, xs, rfl, hM, hR, hb⟩
  have hb2 : Below w1.heap.size w1 (w1.alloc (.cells ([sP].map Value.string).toArray 9)) := (Below.refl _ w1).alloc (Nat.le_refl _) _
  have hM2 := hM.below hb2
  have hx3 : xs.length = 3 := hR.1
  have KS := scope_usual (zs := [sP]) (A := some ⟨w1.heap.size, 0, none⟩) (cap := 1) _ hM2.doc hM2.st (rdT_new w1 [sP] 9) (by decide) (by omega) (by omega)
  rw [head_val hR] at KS
  simp only [List.map_cons, List.map_nil, List.length_cons, List.length_nil, Nat.reduceAdd] at KS
  unfold sP at KS
  have HKS := Lib.hid KS
  have HBB := Lib.hid (HB1.out.trans (hb.mono HB1.out.size))
  have HB2 := Lib.hid hb2
  clear KS hb2 hM2 hM hR hb hx3 KM HB1
  simp only [List.map_cons, List.map_nil] at HB2
  unfold sP at HB2
  go_wp2_with fail
  refine HKS.out.mono ?_
  rintro e w2 ⟨rfl, hb3⟩
  go_wp2
  go_ret
  exact ⟨rfl, (HBB.out.trans (HB2.out.mono HBB.out.size)).trans (hb3.mono (Nat.le_trans HBB.out.size HB2.out.size))⟩
end Go.Proofs.Ytfkbjniodomdjaa
