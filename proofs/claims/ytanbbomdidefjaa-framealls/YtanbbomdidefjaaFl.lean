/- Contract of frame.lengthOf. -/
import Derived.Test.YtanbbomdidefjaaFp
import Derived.Test.YtanbbomdidefjaaNf
namespace Go.Proofs.Ytanbbomdidefjaa
open Go.RowKit

/-- the length with which bytes begin, how many it takes, or why there is none -/
def lenOf (b : List Int) : Nat × Nat × Int :=
  if (Nx.go (b.take 10) 0 0).2.2 = 8 then (0, 0, 8)
  else if (Nx.go (b.take 10) 0 0).2.2 ≠ 0 ∨ 2097152 < (Nx.go (b.take 10) 0 0).1 then (0, 0, 12)
  else ((Nx.go (b.take 10) 0 0).1, (Nx.go (b.take 10) 0 0).2.1, 0)
theorem bs_of {l : List Int} (h : Byte8 l) : bs (strOfNums l) = l := by
  unfold bs strOfNums
  simp only [List.map_map]
  have : ∀ (l : List Int), Byte8 l → l.map ((fun c : UInt8 => (c.toNat : Int)) ∘ fun n => UInt8.ofNat n.toNat) = l := by
    intro l
    induction l with
    | nil => intro _; rfl
    | cons c l ih =>
      intro h
      rw [List.map_cons, ih (fun x hx => h x (by simp [hx]))]
      have := h c (by simp)
      congr 1
      simp only [Function.comp_apply]
      rw [UInt8.toNat_ofNat']
      omega
  exact this l h
theorem strOf_len (l : List Int) : (strOfNums l).size = l.length := by simp [strOfNums, ByteArray.size]
def LenPost (b : List Int) (w : World) (e : Ending) (w' : World) : Prop :=
  e = .returned (.tuple #[.int .i64 (lenOf b).1, .int .i64 (lenOf b).2.1, .int .i64 (lenOf b).2.2]) ∧ Below w.heap.size w w'

set_option maxRecDepth 100000 in
set_option maxHeartbeats 400000 in
theorem lengthOf_any (b : List Int) (A : Option Addr) (cap : Nat) (w : World) (hb : Rd w .u8 A b) (h8 : Byte8 b) (hcap : b.length ≤ cap) (hl : b.length ≤ 100000000) :
    Calls Try.prog 25 #[.slice A b.length cap] w (LenPost b w) := by
  obtain ⟨L, hL⟩ : ∃ L, b.take 10 = L := ⟨_, rfl⟩
  have hLl : (L.length : Int) = min (b.length : Int) 10 := by rw [← hL, List.length_take]; omega
  have hmin : min (b.length : Int) 10 = (L.length : Int) := hLl.symm
  have hle : (L.length : Int) ≤ (cap : Int) := by omega
  have h0 : (0 : Int) ≤ (L.length : Int) := by omega
  have hrdL : Rd w .u8 A L := by
    rw [← hL]
    rcases hb with rfl | ⟨bb, off, e, hbb, hc⟩
    · left; simp
    · refine .inr ⟨bb, off, e, hbb, fun i hi => ?_⟩
      rw [List.length_take] at hi
      rw [hc i (by omega)]
      have : i < 10 := by omega
      simp [this]
  have hL8 : Byte8 L := by rw [← hL]; exact h8.take 10
  have hl10 : L.length ≤ 10 := by rw [← hL, List.length_take]; omega
  have hgo : Nx.go (bs (strOfNums L)) 0 0 = Nx.go L 0 0 := by rw [bs_of hL8]
  have hsh := go_bs (strOfNums L)
  rw [hgo, strOf_len] at hsh
  have hPost : lenOf b = if (Nx.go L 0 0).2.2 = 8 then (0, 0, 8) else if (Nx.go L 0 0).2.2 ≠ 0 ∨ 2097152 < (Nx.go L 0 0).1 then (0, 0, 12) else ((Nx.go L 0 0).1, (Nx.go L 0 0).2.1, 0) := by unfold lenOf; rw [hL]
  have HP := Lib.hid hPost
  clear hPost hLl
  unfold LenPost
  rw [HP.out]
  obtain ⟨R, hR⟩ : ∃ R, Nx.go L 0 0 = R := ⟨_, rfl⟩
  have hnum : numS (strOfNums L) 2097152 = if R.2.2 ≠ 0 then (0, none8, R.2.2) else if 2097152 < R.1 then (0, none8, 3) else (R.1, (strOfNums L).extract R.2.1 (strOfNums L).size, 0) := by unfold numS; rw [hgo, hR]
  rw [hR] at hsh
  rw [hR]
  have kN := fun g w1 (h : Rdr w1 g (strOfNums L) 0) => Num_any g (strOfNums L) 2097152 w1 h (by rw [strOf_len]; omega)
  rw [hnum] at kN
  have KN := Lib.hid kN
  clear kN hnum hgo HP hR hL
  obtain ⟨n, t, err⟩ := R
  simp only at hsh KN ⊢
  obtain ⟨T, hT⟩ : ∃ T : Nat × Nat × Int, (if err = 8 then (0, 0, 8) else if err ≠ 0 ∨ 2097152 < n then (0, 0, 12) else (n, t, 0)) = T := ⟨_, rfl⟩
  rw [hT]
  have HT := Lib.hid hT
  clear hT
  go_enter Try.func25, Try.ntmps25
  go_wp2_with fail
  refine (Read_any L A L.length cap w hrdL rfl).mono ?_
  rintro e w1 ⟨g, rfl, hr1, hge, hb1⟩
  by_cases he : err = 0
  · subst he
    have hsh2 : t ≤ L.length ∧ n < 18446744073709551616 := by
      rcases hsh with ⟨_, h1, h2⟩ | ⟨h1 | h1, _⟩
      · exact ⟨h1, h2⟩
      · cases h1
      · cases h1
    by_cases hm : 2097152 < n
    · have hp : T = (0, 0, 12) := by rw [← HT.out]; simp [hm]
      subst hp
      simp only [ne_eq, not_true_eq_false, if_false, hm, if_true] at KN
      clear hsh HT
      go_wp2_with fail
      refine (KN.out g w1 hr1).mono ?_
      rintro e w2 ⟨rfl, hr2, hg2⟩
      have hb2 : Below w.heap.size w w2 := hb1.grown hg2 hb1.size (fun k e => by cases e; exact hge)
      go_wp2_with fail
      refine (Err_any g _ _ w2 hr2).mono ?_
      rintro e w3 ⟨rfl, rfl⟩
      go_wp2
      go_ret3
      exact ⟨rfl, hb2⟩
    · have hp : T = (n, t, 0) := by rw [← HT.out]; simp [hm]
      subst hp
      simp only [ne_eq, not_true_eq_false, if_false, hm] at KN
      clear hsh HT
      go_wp2_with fail
      refine (KN.out g w1 hr1).mono ?_
      rintro e w2 ⟨rfl, hr2, hg2⟩
      have hb2 : Below w.heap.size w w2 := hb1.grown hg2 hb1.size (fun k e => by cases e; exact hge)
      go_wp2_with fail
      refine (Err_any g _ _ w2 hr2).mono ?_
      rintro e w3 ⟨rfl, rfl⟩
      go_wp2_with fail
      refine (Left_any g _ _ _ hr2).mono ?_
      rintro e w3 ⟨rfl, rfl⟩
      have hsz : (((strOfNums L).extract t (strOfNums L).size).size : Int) = (L.length : Int) - (t : Int) := by
        simp [strOf_len]
        omega
      rw [hsz]
      go_wp2
      go_ret3
      refine ⟨?_, hb2⟩
      show Ending.returned (.tuple #[.int .i64 (n : Int), .int .i64 ((L.length : Int) - ((L.length : Int) - (t : Int))), .int .i64 0]) = _
      rw [show (L.length : Int) - ((L.length : Int) - (t : Int)) = (t : Int) by omega]
  · by_cases h88 : err = 8
    · subst h88
      have hp : T = (0, 0, 8) := by rw [← HT.out]; simp
      subst hp
      simp only [ne_eq, show ¬ ((8 : Int) = 0) from by decide, not_false_eq_true, if_true] at KN
      clear hsh HT
      go_wp2_with fail
      refine (KN.out g w1 hr1).mono ?_
      rintro e w2 ⟨rfl, hr2, hg2⟩
      have hb2 : Below w.heap.size w w2 := hb1.grown hg2 hb1.size (fun k e => by cases e; exact hge)
      go_wp2_with fail
      refine (Err_any g _ _ w2 hr2).mono ?_
      rintro e w3 ⟨rfl, rfl⟩
      go_wp2
      go_ret3
      exact ⟨rfl, hb2⟩
    · have hp : T = (0, 0, 12) := by rw [← HT.out, if_neg h88, if_pos (.inl he)]
      subst hp
      simp only [ne_eq, he, not_false_eq_true, if_true] at KN
      clear hsh HT
      have hd1 : (err == 0) = false := by simpa using he
      have hd2 : (err == 8) = false := by simpa using h88
      clear he h88
      go_wp2_with fail
      refine (KN.out g w1 hr1).mono ?_
      rintro e w2 ⟨rfl, hr2, hg2⟩
      have hb2 : Below w.heap.size w w2 := hb1.grown hg2 hb1.size (fun k e => by cases e; exact hge)
      go_wp2_with fail
      refine (Err_any g _ _ w2 hr2).mono ?_
      rintro e w3 ⟨rfl, rfl⟩
      go_wp2
      go_ret3
      exact ⟨rfl, hb2⟩

end Go.Proofs.Ytanbbomdidefjaa
