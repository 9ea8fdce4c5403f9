/- A stack of elements, made: templates let in. -/
import Derived.Test.YtfkbjniodomdjaaSm
import Derived.Test.YtfkbjniodomdjaaEi
namespace Go.Proofs.Ytfkbjniodomdjaa
open Go.RowKit Go.Lib

theorem add_gen {base D : Nat} {v : Value} {qk : Bool} {ns : List Nd} {W : World} (x : Nam) (h : DocM base D v qk ns W) (hb : base ≤ W.heap.size) (hl : ns.length < 10000) :
    Calls Try.prog 24 #[.pointer (some ⟨D, 0, none⟩), .agg (mdN x).cs.toArray] W fun e W' => e = .returned (.int .i64 ns.length) ∧ ∃ ns', MdA ns ns' x ∧ Adds base D v qk ns ns' W W' := by
  cases ht : tplB (mdN x) with
  | false => exact add_md x h hb hl ht
  | true =>
    refine (add_tpl (mdN x) h hb ht (by omega) (.inl rfl) (fun _ => rfl) (Nat.zero_le _)).mono ?_
    rintro e W' ⟨rfl, A, c, hA⟩
    refine ⟨rfl, _, ⟨fun i y hi => ?_, ⟨tplNd (mdN x) A c ns.length, ?_, rfl, rfl, rfl⟩, by simp, by simp⟩, hA⟩
    · rw [List.getElem?_append_left (List.getElem?_eq_some_iff.1 hi).1]
      exact hi
    · rw [List.getElem?_append_right (Nat.le_refl _), Nat.sub_self]
      rfl
set_option maxHeartbeats 1000000 in
theorem made_gen (nm : List Nam) (A : Option Addr) (cap : Nat) (W : World) (h : RdM W A nm) (hl : nm.length ≤ 1000) :
    Calls Try.prog 31 #[.slice A nm.length cap] W (MdPost nm W) := by
  have KN := Lib.hid (New_any W)
  have H := Lib.hid h
  clear h
  go_enter Try.func31, Try.ntmps31
  go_wp2_with fail
  refine KN.out.mono ?_
  rintro e w1 ⟨D, v, rfl, hD, hb1⟩
  have hm0 : MkM W.heap.size w1.heap.size D v (.slice none 0 0) [pageNd] [] (w1.alloc (.cells #[.pointer (some ⟨D, 0, none⟩), .slice none 0 0] 76)) := by
    have hb := (Below.refl w1.heap.size w1).alloc (Nat.le_refl _) (.cells #[.pointer (some ⟨D, 0, none⟩), .slice none 0 0] 76)
    refine ⟨hD.below hb, ⟨heap_alloc_new w1 _, .inl ⟨rfl, rfl⟩⟩, ?_, ?_, Nat.le_trans hb1.size hb.size⟩
    · rintro j (rfl | e) hd
      · have := (hD.in_ _ hd).2
        omega
      · cases e
    · rintro j (rfl | e)
      · exact hb1.size
      · cases e
  have HM0 := Lib.hid hm0
  have HB1 := Lib.hid (hb1.alloc hb1.size (.cells #[.pointer (some ⟨D, 0, none⟩), .slice none 0 0] 76))
  clear hD hb1 hm0 KN
  go_wp2
  obtain ⟨T, hT⟩ : ∃ T, w1.heap.size = T := ⟨_, rfl⟩
  obtain ⟨w2, hw2⟩ : ∃ w2, w1.alloc (.cells #[.pointer (some ⟨D, 0, none⟩), .slice none 0 0] 76) = w2 := ⟨_, rfl⟩
  rw [hT, hw2] at HM0
  rw [hw2] at HB1
  rw [hT, hw2]
  clear hT hw2 w1
  go_loopw [13] (fun iv wr => ∃ (k : Nat) (v va : Value) (ns : List Nd) (xs : List Int), k ≤ nm.length ∧ iv = .int .i64 k ∧ Hid (MkM W.heap.size T D v va ns xs wr) ∧ Hid (MadeR nm k ns xs) ∧ Hid (Below W.heap.size W wr)) (fun iv _ => nm.length - (intOf iv).toNat)
  case atStart => exact ⟨0, v, _, _, _, Nat.zero_le _, rfl, HM0, Lib.hid ⟨rfl, by simp, fun j x hj => absurd hj (Nat.not_lt_zero _)⟩, HB1⟩
  case round =>
    obtain ⟨k, v, va, ns, xs, hk, rfl, HM, HR, HB⟩ := hrel
    by_cases hlt : k < nm.length
    · obtain ⟨x, hx⟩ : ∃ x, nm[k]? = some x := ⟨_, List.getElem?_eq_getElem hlt⟩
      have HX := Lib.hid hx
      obtain ⟨b, off, hA, hbl, c0, c1⟩ := H.out.at_ hx
      have d0 := (HB.out.cell (p := ⟨b, off + k * 2, none⟩) hbl).trans c0
      have d1 := (HB.out.cell (p := ⟨b, off + k * 2 + 1, none⟩) hbl).trans c1
      have hw : Below wr.heap.size wr (wr.alloc (.cells #[.string x.1, .int .i64 x.2] 67)) := (Below.refl _ wr).alloc (Nat.le_refl _) _
      have HM1 := Lib.hid (HM.out.below hw)
      have HW := Lib.hid (HB.out.trans (hw.mono HB.out.size))
      have KA := add_gen x HM1.out.doc HM1.out.bl (by have := HR.out.2.1; omega)
      unfold mdN Nd.cs spc at KA
      have HKA := Lib.hid KA
      subst hA
      clear c0 c1 hx hw KA
      go_wp2_with fail
      refine HKA.out.mono ?_
      rintro e w3 ⟨rfl, ns', hmd, hadd⟩
      obtain ⟨v', hM3, hb3⟩ := HM1.out.add hadd
      have HM3 := Lib.hid hM3
      have HR3 := Lib.hid (HR.out.next HX.out hmd)
      have HB3 := Lib.hid (HW.out.trans hb3)
      have KP := Lib.hid (push_any ns.length w3 hM3.st (by have := HR.out.1; omega))
      clear hmd hadd hM3 hb3 d0 d1
      go_wp2_with fail
      refine KP.out.mono ?_
      rintro e w4 ⟨rfl, hp⟩
      obtain ⟨va', hM4, hb4⟩ := HM3.out.turn hp
      have HM4 := Lib.hid hM4
      have HB4 := Lib.hid (HB3.out.trans hb4)
      clear hp hM4 hb4
      go_wp2
      go_roundw
      case rel => exact ⟨k + 1, v', va', ns', _, by omega, by go_num, HM4, HR3, HB4⟩
      case measure => simp [intOf]; omega
    · obtain rfl : k = nm.length := by omega
      go_wp2
      go_ret
      exact ⟨T, D, v, va, ns, xs, rfl, HM.out, HR.out, HB.out⟩
end Go.Proofs.Ytfkbjniodomdjaa
