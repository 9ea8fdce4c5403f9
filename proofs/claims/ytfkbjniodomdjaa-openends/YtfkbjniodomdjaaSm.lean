/- A stack of elements, made. -/
import Derived.Test.YtfkbjniodomdjaaSc
import Derived.Test.YtfkbjniodomdjaaEh
import Derived.Test.YtfkbjniodomdjaaEg
namespace Go.Proofs.Ytfkbjniodomdjaa
open Go.RowKit Go.Lib

/-- names that come in, two cells each -/
abbrev Nam := ByteArray × Int
def RdM (w : World) (A : Option Addr) (nm : List Nam) : Prop :=
  nm = [] ∨ ∃ b off, A = some ⟨b, off, none⟩ ∧ b < w.heap.size ∧ ∀ (i : Nat) (x : Nam), nm[i]? = some x → w.cell? ⟨b, off + i * 2, none⟩ = some (.string x.1) ∧ w.cell? ⟨b, off + i * 2 + 1, none⟩ = some (.int .i64 x.2)
theorem RdM.below {w w' : World} {A : Option Addr} {nm : List Nam} (h : RdM w A nm) (hb : Below w.heap.size w w') : RdM w' A nm := by
  rcases h with h | ⟨b, off, rfl, hl, h⟩
  · exact .inl h
  · exact .inr ⟨b, off, rfl, Nat.lt_of_lt_of_le hl hb.size, fun i x hi => ⟨(hb.cell (p := ⟨b, off + i * 2, none⟩) hl).trans (h i x hi).1, (hb.cell (p := ⟨b, off + i * 2 + 1, none⟩) hl).trans (h i x hi).2⟩⟩
theorem RdM.at_ {w : World} {A : Option Addr} {nm : List Nam} {i : Nat} {x : Nam} (h : RdM w A nm) (hx : nm[i]? = some x) : ∃ b off, A = some ⟨b, off, none⟩ ∧ b < w.heap.size ∧ w.cell? ⟨b, off + i * 2, none⟩ = some (.string x.1) ∧ w.cell? ⟨b, off + i * 2 + 1, none⟩ = some (.int .i64 x.2) := by
  rcases h with rfl | ⟨b, off, hA, hb, h⟩
  · simp at hx
  · exact ⟨b, off, hA, hb, h i x hx⟩
/-- the space that a number means; the node made of a name -/
def spc (z : Int) : Int := (bits BinOp.and IntKind.i64 z 3).tmod 3
def mdN (x : Nam) : Nd := ⟨2, spc x.2, x.1, ⟨#[]⟩, none, [], 0, ⟨#[]⟩, ⟨#[]⟩, 0, .slice none 0 0, [], 0⟩
/-- a node more, of a name: what was there stands where it stood -/
def MdA (ns ns' : List Nd) (x : Nam) : Prop :=
  (∀ (i : Nat) (y : Nd), ns[i]? = some y → ns'[i]? = some y) ∧ (∃ nd, ns'[ns.length]? = some nd ∧ nd.kind = 2 ∧ nd.space = spc x.2 ∧ nd.name = x.1) ∧ ns'.length ≤ ns.length + 2 ∧ ns.length < ns'.length
theorem add_md {base D : Nat} {v : Value} {qk : Bool} {ns : List Nd} {W : World} (x : Nam) (h : DocM base D v qk ns W) (hb : base ≤ W.heap.size) (hl : ns.length < 10000) (ht : tplB (mdN x) = false) :
    Calls Try.prog 24 #[.pointer (some ⟨D, 0, none⟩), .agg (mdN x).cs.toArray] W fun e W' => e = .returned (.int .i64 ns.length) ∧ ∃ ns', MdA ns ns' x ∧ Adds base D v qk ns ns' W W' := by
  refine (add_plain (mdN x) h hb ht (by omega) (.inl rfl) (fun _ => rfl) (Nat.zero_le _)).mono ?_
  rintro e W' ⟨rfl, A, c, hA⟩
  refine ⟨rfl, _, ⟨fun i y hi => ?_, ⟨_, List.getElem?_concat_length, rfl, rfl, rfl⟩, by simp, by simp⟩, hA⟩
  rw [List.getElem?_append_left (List.getElem?_eq_some_iff.1 hi).1]
  exact hi
/-- a stack's elements are those of the names -/
def MadeR (nm : List Nam) (k : Nat) (ns : List Nd) (xs : List Int) : Prop :=
  xs.length = k ∧ ns.length ≤ 2 * k + 1 ∧ ∀ (j : Nat) (x : Nam), j < k → nm[j]? = some x → ∃ (i : Nat) (nd : Nd), xs[j]? = some (i : Int) ∧ ns[i]? = some nd ∧ nd.kind = 2 ∧ nd.space = spc x.2 ∧ nd.name = x.1
theorem MadeR.next {nm : List Nam} {k : Nat} {ns ns' : List Nd} {xs : List Int} {x : Nam} (h : MadeR nm k ns xs) (hx : nm[k]? = some x) (ha : MdA ns ns' x) : MadeR nm (k + 1) ns' (xs ++ [(ns.length : Int)]) := by
  obtain ⟨h1, h2, h3⟩ := h
  obtain ⟨a1, ⟨nd, a2, a3, a4, a5⟩, a6, _⟩ := ha
  refine ⟨by simp [h1], by omega, fun j y hj hy => ?_⟩
  by_cases hjk : j = k
  · subst hjk
    rw [hx] at hy
    cases hy
    exact ⟨ns.length, nd, by rw [← h1]; exact List.getElem?_concat_length, a2, a3, a4, a5⟩
  · obtain ⟨i, n2, b1, b2, b3⟩ := h3 j y (by omega) hy
    exact ⟨i, n2, by rw [List.getElem?_append_left (by omega)]; exact b1, a1 i n2 b2, b3⟩
/-- a stack and its tree, beside each other -/
structure MkM (base T D : Nat) (v va : Value) (ns : List Nd) (xs : List Int) (W : World) : Prop where
  doc : DocM base D v false ns W
  st : StM T (.pointer (some ⟨D, 0, none⟩)) va xs W
  ap : ∀ j, ST T va j → ¬ DB D v ns j
  ge : ∀ j, ST T va j → base ≤ j
  bl : base ≤ W.heap.size
section
variable {base T D : Nat} {v va : Value} {ns ns' : List Nd} {xs xs' : List Int} {W W' : World}
theorem MkM.below (h : MkM base T D v va ns xs W) (hb : Below W.heap.size W W') : MkM base T D v va ns xs W' :=
  ⟨h.doc.below hb, h.st.below hb, h.ap, h.ge, Nat.le_trans h.bl hb.size⟩
theorem MkM.add (h : MkM base T D v va ns xs W) (ha : Adds base D v false ns ns' W W') : ∃ v', MkM base T D v' va ns' xs W' ∧ Below base W W' := by
  obtain ⟨v', hd, hf, hn⟩ := ha
  have hl := h.bl
  refine ⟨v', ⟨hd, h.st.keep hf h.ap, fun j hj hd' => ?_, h.ge, Nat.le_trans hl hf.size⟩, hf.toBelow hl (fun k hk => (h.doc.in_ k hk).1)⟩
  rcases hn j hd' with h1 | h1
  · exact h.ap j hj h1
  · have := h.st.in_ j hj
    omega
theorem MkM.turn (h : MkM base T D v va ns xs W) (hp : SPost T (.pointer (some ⟨D, 0, none⟩)) va xs' W W') : ∃ va', MkM base T D v va' ns xs' W' ∧ Below base W W' := by
  obtain ⟨va', hs, hf, hn⟩ := hp
  have hl := h.bl
  have hin : ∀ j, ST T va' j → ST T va j ∨ W.heap.size ≤ j := by
    rintro j (rfl | e)
    · exact .inl (.inl rfl)
    · rcases hn _ e with h1 | h1
      · exact .inl (.inr h1)
      · exact .inr h1
  refine ⟨va', ⟨h.doc.keep hf (fun k hk hs' => h.ap k hs' hk), hs, fun j hj hd => ?_, fun j hj => ?_, Nat.le_trans hl hf.size⟩, hf.toBelow hl h.ge⟩
  · rcases hin j hj with h1 | h1
    · exact h.ap j h1 hd
    · have := (h.doc.in_ j hd).2
      omega
  · rcases hin j hj with h1 | h1
    · exact h.ge j h1
    · omega
end
def MdPost (nm : List Nam) (W : World) (e : Ending) (W' : World) : Prop :=
  ∃ T D v va ns xs, e = .returned (.pointer (some ⟨T, 0, none⟩)) ∧ MkM W.heap.size T D v va ns xs W' ∧ MadeR nm nm.length ns xs ∧ Below W.heap.size W W'
set_option maxHeartbeats 1000000 in
theorem made_any (nm : List Nam) (A : Option Addr) (cap : Nat) (W : World) (h : RdM W A nm) (hl : nm.length ≤ 1000) (ht : ∀ x ∈ nm, tplB (mdN x) = false) :
    Calls Try.prog 31 #[.slice A nm.length cap] W (MdPost nm W) := by
  have KN := Lib.hid (New_any W)
  have H := Lib.hid h
  have HT := Lib.hid ht
  clear h ht
  go_enter Try.func31, Try.ntmps31
  go_wp2_with fail
  refine KN.out.mono ?_
  rintro e w1 ⟨D, v, rfl, hD, hb1⟩
  have hm0 : MkM W.heap.size w1.heap.size D v (.slice none 0 0) [pageNd] [] (w1.alloc (.cells #[.pointer (some ⟨D, 0, none⟩), .slice none 0 0] 76)) := by
    have hb := (Below.refl w1.heap.size w1).alloc (Nat.le_refl _) (.cells #[.pointer (some ⟨D, 0, none⟩), .slice none 0 0] 76)
    refine ⟨hD.below hb, ⟨heap_alloc_new w1 _, .inl ⟨rfl, rfl⟩⟩, ?_, ?_, Nat.le_trans hb1.size hb.size⟩
    · rintro j (rfl | e) hd
      · have := (hD.in_ _ hd).2
        omega
      · cases e
    · rintro j (rfl | e)
      · exact hb1.size
      · cases e
  have HM0 := Lib.hid hm0
  have HB1 := Lib.hid (hb1.alloc hb1.size (.cells #[.pointer (some ⟨D, 0, none⟩), .slice none 0 0] 76))
  clear hD hb1 hm0 KN
  go_wp2
  obtain ⟨T, hT⟩ : ∃ T, w1.heap.size = T := ⟨_, rfl⟩
  obtain ⟨w2, hw2⟩ : ∃ w2, w1.alloc (.cells #[.pointer (some ⟨D, 0, none⟩), .slice none 0 0] 76) = w2 := ⟨_, rfl⟩
  rw [hT, hw2] at HM0
  rw [hw2] at HB1
  rw [hT, hw2]
  clear hT hw2 w1
  go_loopw [13] (fun iv wr => ∃ (k : Nat) (v va : Value) (ns : List Nd) (xs : List Int), k ≤ nm.length ∧ iv = .int .i64 k ∧ Hid (MkM W.heap.size T D v va ns xs wr) ∧ Hid (MadeR nm k ns xs) ∧ Hid (Below W.heap.size W wr)) (fun iv _ => nm.length - (intOf iv).toNat)
  case atStart => exact ⟨0, v, _, _, _, Nat.zero_le _, rfl, HM0, Lib.hid ⟨rfl, by simp, fun j x hj => absurd hj (Nat.not_lt_zero _)⟩, HB1⟩
  case round =>
    obtain ⟨k, v, va, ns, xs, hk, rfl, HM, HR, HB⟩ := hrel
    by_cases hlt : k < nm.length
    · obtain ⟨x, hx⟩ : ∃ x, nm[k]? = some x := ⟨_, List.getElem?_eq_getElem hlt⟩
      have HX := Lib.hid hx
      obtain ⟨b, off, hA, hbl, c0, c1⟩ := H.out.at_ hx
      have d0 := (HB.out.cell (p := ⟨b, off + k * 2, none⟩) hbl).trans c0
      have d1 := (HB.out.cell (p := ⟨b, off + k * 2 + 1, none⟩) hbl).trans c1
      have hw : Below wr.heap.size wr (wr.alloc (.cells #[.string x.1, .int .i64 x.2] 67)) := (Below.refl _ wr).alloc (Nat.le_refl _) _
      have HM1 := Lib.hid (HM.out.below hw)
      have HW := Lib.hid (HB.out.trans (hw.mono HB.out.size))
      have KA := add_md x HM1.out.doc HM1.out.bl (by have := HR.out.2.1; omega) (HT.out x (List.mem_of_getElem? hx))
      unfold mdN Nd.cs spc at KA
      have HKA := Lib.hid KA
      subst hA
      clear c0 c1 hx hw KA
      go_wp2_with fail
      refine HKA.out.mono ?_
      rintro e w3 ⟨rfl, ns', hmd, hadd⟩
      obtain ⟨v', hM3, hb3⟩ := HM1.out.add hadd
      have HM3 := Lib.hid hM3
      have HR3 := Lib.hid (HR.out.next HX.out hmd)
      have HB3 := Lib.hid (HW.out.trans hb3)
      have KP := Lib.hid (push_any ns.length w3 hM3.st (by have := HR.out.1; omega))
      clear hmd hadd hM3 hb3 d0 d1
      go_wp2_with fail
      refine KP.out.mono ?_
      rintro e w4 ⟨rfl, hp⟩
      obtain ⟨va', hM4, hb4⟩ := HM3.out.turn hp
      have HM4 := Lib.hid hM4
      have HB4 := Lib.hid (HB3.out.trans hb4)
      clear hp hM4 hb4
      go_wp2
      go_roundw
      case rel => exact ⟨k + 1, v', va', ns', _, by omega, by go_num, HM4, HR3, HB4⟩
      case measure => simp [intOf]; omega
    · obtain rfl : k = nm.length := by omega
      go_wp2
      go_ret
      exact ⟨T, D, v, va, ns, xs, rfl, HM.out, HR.out, HB.out⟩
end Go.Proofs.Ytfkbjniodomdjaa
