/- The document's example of layer 3; the law NumNil, walked. -/
import Derived.Test.YtfjbelkpblgfiaaNp
import Derived.Test.YtfjbelkpblgfiaaNf
namespace Go.Proofs.Ytfjbelkpblgfiaa
open Go.RowKit

theorem put_300 : Nx.put 300 = [172, 2] := by
  rw [Nx.put_hi (by omega), Nx.put_lo (by omega)]; rfl
theorem str_300 : strOfNums ([] ++ Nx.put 300) = ⟨#[172, 2]⟩ := by rw [put_300]; rfl
theorem str_ab : strOfNums ([] ++ (Nx.put 2 ++ bs ⟨#[97, 98]⟩)) = ⟨#[2, 97, 98]⟩ := by
  rw [Nx.put_lo (by omega)]; rfl

set_option maxHeartbeats 400000 in
theorem head3_any (w : World) : Calls Try.prog 12 #[] w fun e w' => e = .returned (.bool true) ∧ Below w.heap.size w w' := by
  go_enter Try.func12, Try.ntmps12
  go_wp2_with fail
  refine (Put_any [] none 0 300 _ (.inl rfl) (fun _ => rfl) (by simp) (by omega)).mono ?_
  rintro e w1 ⟨v1, rfl, hown1, hb1⟩
  have hv1 := str_own (P := Try.prog) Try.underlying25 Try.underlying5 Try.underlying9 hown1
  rw [str_300] at hv1
  clear hown1
  go_wp2_with fail
  refine (Text_any [] none 0 ⟨#[97, 98]⟩ _ (.inl rfl) (fun _ => rfl) (by simp) (by decide)).mono ?_
  rintro e w2 ⟨v2, rfl, hown2, hb2⟩
  have hv2 := str_own (P := Try.prog) Try.underlying25 Try.underlying5 Try.underlying9 hown2
  rw [show (ByteArray.size ⟨#[97, 98]⟩) = 2 from rfl, str_ab] at hv2
  clear hown2
  go_wp2
  go_ret
  exact ⟨rfl, hb1.trans (hb2.mono hb1.size)⟩

set_option maxHeartbeats 400000 in
theorem numNil_law (m : Int) (w : World) (h1 : -9223372036854775808 ≤ m) (h2 : m ≤ 9223372036854775807) : Calls Try.prog 5 #[.int .i64 m] w fun e w' => e = .returned (.bool true) ∧ Below w.heap.size w w' := by
  go_enter Try.func5, Try.ntmps5
  go_wp2_with (first
    | (go_at_call 12; refine (head3_any _).mono ?_; rintro e w1 ⟨rfl, hb1⟩)
    | (go_at_call 17; refine (Num_nil _ _).mono ?_; rintro e w' ⟨rfl, rfl⟩)
    | (go_at_call 18; refine (Text_nil _ _ h1 h2).mono ?_; rintro e w' ⟨rfl, rfl⟩)
    | (go_at_call 21; refine (Err_nil _).mono ?_; rintro e w' ⟨rfl, rfl⟩)
    | (go_at_call 20; refine (Left_nil _).mono ?_; rintro e w' ⟨rfl, rfl⟩)
    | (go_at_call_of 19 (Value.pointer none); refine (End_nil _).mono ?_; rintro e w' ⟨rfl, rfl⟩)
    | (go_at_call 16; refine (Read_any [] none 0 0 _ (.inl rfl) rfl).mono ?_; rintro e w2 ⟨g, rfl, hr, hlt, hb2⟩)
    | (go_at_call 19; refine (End_ok g _ _ hr rfl).mono ?_; rintro e w' ⟨rfl, rfl⟩))
  go_ret
  exact ⟨rfl, hb1.trans (hb2.mono hb1.size)⟩
end Go.Proofs.Ytfjbelkpblgfiaa
