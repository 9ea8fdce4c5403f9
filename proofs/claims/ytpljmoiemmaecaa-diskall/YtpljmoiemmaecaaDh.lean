/- The document's example of layer 4. -/
import Derived.Test.YtpljmoiemmaecaaAw
import Derived.Lib.SlBytesConst
namespace Go.Proofs.Ytpljmoiemmaecaa
open Go.RowKit

def hA1 : Ab := (wrA (newA 100) ⟨#[97]⟩ [120, 121]).1
def hA2 : Ab := (syA hA1).1
def hA3 : Ab := (wrA hA2 ⟨#[97]⟩ [122, 119]).1
def hA4 : Ab := (mvA hA3 ⟨#[97]⟩ ⟨#[98]⟩).1
def hA5 : Ab := crA hA4 0 1
theorem h1c : (wrA (newA 100) ⟨#[97]⟩ [120, 121]).2 = 0 := by decide
theorem h2c : (syA hA1).2 = 0 := by decide
theorem h3c : (wrA hA2 ⟨#[97]⟩ [122, 119]).2 = 0 := by decide
theorem h4c : (mvA hA3 ⟨#[97]⟩ ⟨#[98]⟩).2 = 0 := by decide
theorem h5c : rdA hA5 ⟨#[97]⟩ = ([120, 121, 122], 0) := by decide
theorem conv_rdbP {P : Program} {t e u : TypeId} (ht : P.underlying t = some (.slice e)) (he : P.underlying e = some (.int .u8)) (hu : P.underlying u = some .string) {w : World} {B : Option Addr} {c : Nat} {l : List Int} (h : RdB w (.slice B l.length c) l) : (convert t u (.slice B l.length c)).run P w = .ok (.string (strOfNums l)) w := by
  rcases h with ⟨h, rfl⟩ | ⟨g, cap, cur, h, hg, hn, hc, _, htk⟩
  · unfold nilS at h
    injection h with h
    subst h
    exact run_convert_bytes_nil w t e ht he 0 c u hu
  · injection h with h1 h2 h3
    subst h1
    refine run_convert_bytes_arg w t e ht he g 0 l.length c l rfl (fun i hi => ?_) u hu
    simp only [World.cell?, hg]
    have h1 : (cur.toList.take l.length)[i]? = some (.int .u8 (l.getD i 0)) := by
      rw [htk, List.getElem?_map, List.getElem?_eq_getElem hi]
      simp [List.getD, List.getElem?_eq_getElem hi]
    rw [List.getElem?_take, if_pos hi, Array.getElem?_toList] at h1
    simpa using h1
theorem conv_rdb {w : World} {B : Option Addr} {c : Nat} {l : List Int} (h : RdB w (.slice B l.length c) l) : (convert 28 9 (.slice B l.length c)).run Try.prog w = .ok (.string (strOfNums l)) w :=
  conv_rdbP Try.underlying28 Try.underlying5 Try.underlying9 h

/-- bytes that came in, as a string -/
theorem conv_rdP {P : Program} {t e u : TypeId} (ht : P.underlying t = some (.slice e)) (he : P.underlying e = some (.int .u8)) (hu : P.underlying u = some .string) {w : World} {b : List Int} {A : Option Addr} {cap : Nat} (hr : Rd w .u8 A b) :
    (convert t u (.slice A b.length cap)).run P w = .ok (.string (strOfNums b)) w := by
  rcases hr with rfl | ⟨bb, off, rfl, _, hc⟩
  · cases A with
    | none => exact run_convert_bytes_nil w t e ht he 0 cap u hu
    | some a => exact run_convert_bytes_back w t u e a cap [] ht he hu (fun j hj => absurd hj (by simp))
  · exact run_convert_bytes_arg w t e ht he bb off b.length cap b rfl (fun i hi => by rw [hc i hi]; simp) u hu
theorem conv_rd4 {w : World} {A : Option Addr} {cap : Nat} {l : List Int} (h : Rd w .u8 A l) : (convert 28 9 (.slice A l.length cap)).run Try.prog w = .ok (.string (strOfNums l)) w :=
  conv_rdP Try.underlying28 Try.underlying5 Try.underlying9 h

theorem rd_new (w : World) (x y : Int) (f : Nat × Nat) : Rd (w.alloc (.cells #[.int .u8 x, .int .u8 y] 5 f)) .u8 (some ⟨w.heap.size, 0, none⟩) [x, y] := by
  refine .inr ⟨_, 0, rfl, by simp, fun i hi => ?_⟩
  have := World.cell?_alloc_mark w #[.int .u8 x, .int .u8 y] 5 f
  rw [Nat.zero_add, this]
  match i, hi with
  | 0, _ => rfl
  | 1, _ => rfl

set_option maxRecDepth 100000 in
set_option maxHeartbeats 400000 in
theorem head4_any (w : World) : Calls Try.prog 9 #[] w fun e w' => e = .returned (.bool true) ∧ Fr (fun _ => False) w w' := by
  have kc := fun (w : World) (C : Array Value) (n c : Nat) => Lib.run_convert_bytes_const (P := Try.prog) w 28 5 C n c Try.underlying28 Try.underlying5
  go_enter Try.func9, Try.ntmps9
  go_wp2_with fail
  refine (New_on w 100).mono ?_
  rintro e w1 ⟨rfl, h1⟩
  go_wp2_with fail
  refine (Write_on (h1.keep (Fr.alloc w1 _ _)) ⟨#[97]⟩ _ 2 [120, 121] (by decide) (rd_new w1 120 121 _) (fun h => by cases h) (by omega)).mono ?_
  rw [h1c]
  rintro e w2 ⟨rfl, h2⟩
  go_wp2_with fail
  refine (Sync_on (A := hA1) h2 (by omega)).mono ?_
  rw [h2c]
  rintro e w3 ⟨rfl, h3⟩
  go_wp2_with fail
  refine (Write_on (A := hA2) (h3.keep (Fr.alloc w3 _ _)) ⟨#[97]⟩ _ 2 [122, 119] (by decide) (rd_new w3 122 119 _) (fun h => by cases h) (by omega)).mono ?_
  rw [h3c]
  rintro e w4 ⟨rfl, h4⟩
  go_wp2_with fail
  refine (Move_on (A := hA3) h4 ⟨#[97]⟩ ⟨#[98]⟩ (by decide) (by decide) (by omega)).mono ?_
  rw [h4c]
  rintro e w5 ⟨rfl, h5⟩
  go_wp2_with fail
  refine (Crash_on (A := hA4) h5 0 1 (by omega)).mono ?_
  rintro e w6 ⟨rfl, h6⟩
  go_wp2_with fail
  refine (Read_on (A := hA5) h6 ⟨#[97]⟩ (by decide)).mono ?_
  rw [h5c]
  rintro e w7 ⟨B, c, rfl, hr, _, h7, _⟩
  have kv := conv_rdb hr
  rw [show strOfNums [120, 121, 122] = ⟨#[120, 121, 122]⟩ from rfl, show [(120 : Int), 121, 122].length = 3 from rfl] at kv
  have hfr := h7.fr
  clear hr h7 h6 h5 h4 h3 h2 h1
  go_wp2
  go_ret
  exact ⟨rfl, hfr⟩
end Go.Proofs.Ytpljmoiemmaecaa
