/- What may end where nothing says so: implied. -/
import Derived.Test.YtfkbjniodomdjaaSw
import Derived.Test.YtfkbjniodomdjaaSi
import Derived.Test.YtfkbjniodomdjaaEe
namespace Go.Proofs.Ytfkbjniodomdjaa
open Go.RowKit Go.Shelf Go.Lib

def iS : List ByteArray := [⟨#[100, 100]⟩, ⟨#[100, 116]⟩, ⟨#[108, 105]⟩, ⟨#[111, 112, 116, 103, 114, 111, 117, 112]⟩, ⟨#[111, 112, 116, 105, 111, 110]⟩, ⟨#[112]⟩, ⟨#[114, 98]⟩, ⟨#[114, 112]⟩, ⟨#[114, 116]⟩, ⟨#[114, 116, 99]⟩]
def jS : List ByteArray := [⟨#[99, 97, 112, 116, 105, 111, 110]⟩, ⟨#[99, 111, 108, 103, 114, 111, 117, 112]⟩, ⟨#[116, 98, 111, 100, 121]⟩, ⟨#[116, 100]⟩, ⟨#[116, 102, 111, 111, 116]⟩, ⟨#[116, 104]⟩, ⟨#[116, 104, 101, 97, 100]⟩, ⟨#[116, 114]⟩]
def impN (ns : List Nd) (n : Int) (all : Bool) : Bool := isN ns n iS || (all && isN ns n jS)
section
variable {base D T : Nat} {v va : Value} {qk : Bool} {ns : List Nd} {xs ys : List Int} {A : Option Addr} {cap : Nat} {W X X' : World} {vk : Value}
theorem imp_any (n : Int) (all : Bool) (W : World) (h : DocM base D v qk ns W) : Calls Try.prog 71 #[.pointer (some ⟨D, 0, none⟩), .int .i64 n, .bool all] W fun e W' => e = .returned (.bool (impN ns n all)) ∧ Below W.heap.size W W' := by
  obtain ⟨W1, hW1⟩ : ∃ W1, W.alloc (.cells (iS.map Value.string).toArray 9) = W1 := ⟨_, rfl⟩
  have hb1 : Below W.heap.size W W1 := by rw [← hW1]; exact (Below.refl _ W).alloc (Nat.le_refl _) _
  have hb2 : Below W1.heap.size W1 (W1.alloc (.cells (jS.map Value.string).toArray 9)) := (Below.refl _ W1).alloc (Nat.le_refl _) _
  have hs1 : W1.heap.size = W.heap.size + 1 := by rw [← hW1, World.size_alloc]
  have hr1 : RdT W1 (some ⟨W.heap.size, 0, none⟩) iS := by rw [← hW1]; exact rdT_new W iS 9
  have hr2 := rdT_new W1 jS 9
  rw [hs1] at hr2
  have K1 := Lib.hid (is_any n iS (some ⟨W.heap.size, 0, none⟩) 10 _ (h.below hb1) hr1 (by decide))
  have K2 := Lib.hid (is_any n jS (some ⟨W.heap.size + 1, 0, none⟩) 8 _ ((h.below hb1).below hb2) hr2 (by decide))
  have HB1 := Lib.hid hb1
  have HB2 := Lib.hid hb2
  unfold impN
  obtain ⟨b2, hb2'⟩ : ∃ b, isN ns n jS = b := ⟨_, rfl⟩
  rw [hb2'] at K2 ⊢
  obtain ⟨b1, hb1'⟩ : ∃ b, isN ns n iS = b := ⟨_, rfl⟩
  rw [hb1'] at K1 ⊢
  clear h hb1 hb2 hb2' hb1' hr1 hr2 hs1
  simp only [iS, jS, List.map_cons, List.map_nil, List.length_cons, List.length_nil, Nat.reduceAdd] at K1 K2 HB1 HB2 hW1
  subst hW1
  cases b1 with
  | true =>
    go_enter Try.func71, Try.ntmps71
    go_wp2_with fail
    refine K1.out.mono ?_
    rintro e w1 ⟨rfl, rfl⟩
    go_wp2
    go_ret
    exact ⟨rfl, HB1.out⟩
  | false =>
    cases all with
    | false =>
      go_enter Try.func71, Try.ntmps71
      go_wp2_with fail
      refine K1.out.mono ?_
      rintro e w1 ⟨rfl, rfl⟩
      go_wp2
      go_ret
      exact ⟨rfl, HB1.out⟩
    | true =>
      go_enter Try.func71, Try.ntmps71
      go_wp2_with fail
      refine K1.out.mono ?_
      rintro e w1 ⟨rfl, rfl⟩
      go_wp2_with fail
      refine K2.out.mono ?_
      rintro e w2 ⟨rfl, rfl⟩
      go_wp2
      go_ret
      exact ⟨rfl, HB1.out.trans (HB2.out.mono HB1.out.size)⟩
/-- whether one goes -/
def gI (ns : List Nd) (but : ByteArray) (all : Bool) (n : Int) : Bool := impN ns n all && !(sm (atN ns n nmN ⟨#[]⟩) but)
theorem UN.below {zs : List ByteArray} (h : UN base D T v va ns zs A W vk ys X) (hb : Below X.heap.size X X') : UN base D T v va ns zs A W vk ys X' :=
  ⟨h.doc.below hb, h.st.below hb, h.fr.trans (Frm.below hb), h.sub, h.rd.below hb⟩
end
end Go.Proofs.Ytfkbjniodomdjaa
