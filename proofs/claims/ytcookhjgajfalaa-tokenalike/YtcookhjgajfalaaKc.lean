/- same, Set, Without, places, Once, Alike. -/
import Derived.Test.YtcookhjgajfalaaKa
import Derived.Test.YtcookhjgajfalaaKm
import Derived.Laws.OwnMore
import Derived.Deep.AppendLies
namespace Go.Proofs.Ytcookhjgajfalaa
open Go.RowKit Go.Lib

/-- what a call gives that answers a list of its own -/
def GivesA (xs : List Atr) (w : World) (e : Ending) (w' : World) : Prop :=
  ∃ v, e = .returned v ∧ w'.ownsRow w.heap.size 39 2 v xs.length (cellsA xs) ∧ Below w.heap.size w w'
theorem encA_cells (x : Atr) (W : World) : ∀ (j : Nat) (u : Value), (cellsA [x])[j]? = some u → (W.alloc (.cells #[.string x.1, .string x.2] 39)).cell? ((⟨W.heap.size, 0, none⟩ : Addr).add j) = some u := by
  intro j u hu
  exact cells_new W (cellsA [x]) 39 j u hu

set_option maxHeartbeats 1000000 in
theorem same_refl (xs : List Atr) (A B : Option Addr) (c d : Nat) (w : World) (h : RdA w A xs) (h2 : RdA w B xs) (hl : xs.length ≤ 1000000) :
    Calls Try.prog 17 #[.slice A xs.length c, .slice B xs.length d] w fun e w' => e = .returned (.bool true) ∧ ∃ q, w' = w.drewN q := by
  have H := Lib.hid h
  have H2 := Lib.hid h2
  clear h h2
  have hne : ∀ (x y : Atr) (w : World), Sem.run Try.prog (binOp .neq 39 (.agg #[.string x.1, .string x.2]) (.agg #[.string y.1, .string y.2])) w = .ok (.bool (!(sm x.1 y.1 && sm x.2 y.2))) w := neqA.1
  have hgd : ∀ (op : BinOp) (a b : Operand) (x y : Atr) (w : World), Sem.run Try.prog (eqGuard op 39 a b (.agg #[.string x.1, .string x.2]) (.agg #[.string y.1, .string y.2])) w = .ok () w := neqA.2
  have HNE := Lib.hid hne
  have HGD := Lib.hid hgd
  clear hne hgd
  go_enter Try.func17, Try.ntmps17
  go_wp2
  go_loopw [13] (fun iv wr => ∃ k q : Nat, k ≤ xs.length ∧ iv = .int .i64 k ∧ wr = w.drewN q) (fun iv _ => xs.length - (intOf iv).toNat)
  case atStart => exact ⟨0, 0, Nat.zero_le _, rfl, rfl⟩
  case round =>
    obtain ⟨k, q, hk, rfl, rfl⟩ := hrel
    by_cases hlt : k < xs.length
    · obtain ⟨x, hx⟩ := get_lt hlt
      obtain ⟨b, off, rfl, hbl, c0, c1⟩ := H.out.at_ hx
      obtain ⟨b2, off2, rfl, hbl2, e0, e1⟩ := H2.out.at_ hx
      clear hx
      have n1 : ∀ w : World, Sem.run Try.prog (binOp .neq 39 (.agg #[.string x.1, .string x.2]) (.agg #[.string x.1, .string x.2])) w = .ok (.bool false) w := fun w => by
        rw [HNE.out x x w, sm_self, sm_self]; rfl
      have n2 := fun (op : BinOp) (a b : Operand) (w : World) => HGD.out op a b x x w
      go_wp2
      go_quiet (fail)
      go_wp2
      go_roundw
      case rel => exact ⟨k + 1, _, by omega, by go_num, rfl⟩
      case measure => simp [intOf]; omega
    · obtain rfl : k = xs.length := by omega
      go_wp2
      go_ret
      exact ⟨rfl, _, rfl⟩

set_option maxHeartbeats 2000000 in
theorem without_any (xs : List Atr) (s : ByteArray) (A : Option Addr) (cap : Nat) (w : World) (h : RdA w A xs) (hl : xs.length ≤ 1000000) :
    Calls Try.prog 19 #[.slice A xs.length cap, .string s] w (GivesA (wout xs s) w) := by
  obtain ⟨i0, hi, hz0, hz1, hz2⟩ := info_parts infoAt
  have H := Lib.hid h
  clear h
  go_enter Try.func19, Try.ntmps19
  go_wp2
  go_loopw [5, 10] (fun v iv wr => ∃ k : Nat, k ≤ xs.length ∧ iv = .int .i64 k ∧ Hid (wr.ownsRow w.heap.size 39 2 v (wout (xs.take k) s).length (cellsA (wout (xs.take k) s))) ∧ Below w.heap.size w wr) (fun _ iv _ => xs.length - (intOf iv).toNat)
  case atStart => exact ⟨0, Nat.zero_le _, rfl, Lib.hid ⟨by simp [wout, cellsA], .inl ⟨rfl, rfl⟩⟩, Below.refl _ _⟩
  case round =>
    obtain ⟨k, hk, rfl, HO, hb⟩ := hrel
    by_cases hlt : k < xs.length
    · obtain ⟨x, hx⟩ := get_lt hlt
      have HT := Lib.hid (by rw [take_snoc hx, wout_snoc] : wout (xs.take (k + 1)) s = wout (xs.take k) s ++ if hs s x then [] else [x])
      obtain ⟨b, off, rfl, hbl, c0, c1⟩ := (H.out.below hb).at_ hx
      clear hx
      have hne : ¬ wr.heap.size = b := by omega
      have hle : (wout (xs.take k) s).length ≤ k := Nat.le_trans (List.length_filter_le _ _) (List.length_take_le _ _)
      cases hq : (x.1.toList == s.toList) with
      | true =>
        have HH := Lib.hid (show hs s x = true from hq)
        go_wp2
        go_roundw
        case rel => exact ⟨k + 1, by omega, by go_num, Lib.hid (by rw [HT.out, HH.out]; simpa using HO.out.alloc _), hb.alloc hb.size _⟩
        case measure => simp [intOf]; omega
      | false =>
        have HH := Lib.hid (show hs s x = false from hq)
        obtain ⟨O, hO⟩ : ∃ O, wout (xs.take k) s = O := ⟨_, rfl⟩
        rw [hO] at HO HT hle
        clear hO
        go_wp2_with (at_builtin; refine wpList_append_own _ rfl _ _ 34 rfl w.heap.size 39 i0 _ 2 32 Try.underlying34 hi hz0 hz1 hz2 rfl (by decide) _ _ _ rfl ((HO.out.alloc _).alloc _) ⟨wr.heap.size + 1, 0, none⟩ 1 1 (cellsA [x]) rfl rfl ?q1 (cellsA_one _) ?q4 ?q5 ?q6 ?_)
        case q1 =>
          have := encA_cells x (wr.alloc (.cells #[.string x.1, .string x.2] 39))
          simpa using this
        case q4 => unfold maxLen; omega
        case q5 => omega
        case q6 => have := hb.size; simp; omega
        intro v' w1 hown hgrow _
        go_wp2
        go_roundw
        case rel =>
          refine ⟨k + 1, by omega, by go_num, Lib.hid ?_, ?_⟩
          · rw [HT.out, HH.out, cellsA_snoc]
            simpa using hown
          · exact ((hb.alloc hb.size _).alloc (by have := hb.size; simp; omega) _).grown hgrow (by have := hb.size; simp; omega) (fun r e => (HO.out.lt r e).1)
        case measure => simp [intOf]; omega
    · obtain rfl : k = xs.length := by omega
      have HO' := HO.out
      rw [List.take_of_length_le (Nat.le_refl _)] at HO'
      have HP := Lib.hid HO'
      clear HO HO'
      go_wp2
      go_ret
      exact ⟨_, rfl, HP.out, hb⟩

end Go.Proofs.Ytcookhjgajfalaa
