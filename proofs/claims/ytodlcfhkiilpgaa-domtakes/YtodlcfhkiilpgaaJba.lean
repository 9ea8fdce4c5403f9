/- What the law of DomTakes keeps in memory, and what it knows of its trees. -/
import Derived.Test.YtodlcfhkiilpgaaJaa
import Derived.Test.YtodlcfhkiilpgaaJk
namespace Go.Proofs.Ytodlcfhkiilpgaa
open Go.RowKit Go.Shelf Go.Lib

theorem Tr.gd {ns : List Nd} (h : Tr (ns.map Nd.pl)) : Gd ns := by
  intro i x hx
  have hx' : (ns.map Nd.pl)[i]? = some x.pl := by rw [List.getElem?_map, hx]; rfl
  refine ⟨fun hk => ?_, fun c hc => ?_⟩
  · have h1 := h.kd i x.pl hx'
    have h2 := h1.2 hk
    have h3 := h1.1
    have e : x.pl.kind = x.kind := rfl
    omega
  · obtain ⟨j, y, rfl, hy, hu⟩ := h.kup i x.pl hx' c hc
    have hy0 := hy
    rw [List.getElem?_map] at hy
    obtain ⟨z, hz, rfl⟩ := Option.map_eq_some_iff.1 hy
    refine ⟨inN_of hz, fun y hy => ?_⟩
    rw [Int.toNat_natCast, hz] at hy
    cases hy
    intro e
    have h1 := (h.pg j z.pl hy0 e).1
    rw [hu] at h1
    omega
section
variable {w1 : World} {D : Nat} {v : Value} {ns : List Nd} {va : Value} {os : List Ow} {m : Nat} {W W' : World}
theorem St.tr1 (h : St w1 D v ns va os m W) : Tr (ns.map Nd.pl) := by rw [h.eq]; exact h.tr
theorem St.gd (h : St w1 D v ns va os m W) : Gd ns := h.tr1.gd
theorem St.rs (h : St w1 D v ns va os m W) : ∀ x ∈ ns, x.space = 0 ∧ x.attrs = [] ∧ x.pub = ⟨#[]⟩ ∧ x.sys = ⟨#[]⟩ := fun x hx => by
  have h1 := h.rst x.rst (List.mem_map_of_mem hx)
  exact ⟨congrArg (fun r => r.1) h1, congrArg (fun r => r.2.1) h1, congrArg (fun r => r.2.2.1) h1, congrArg (fun r => r.2.2.2) h1⟩
theorem St.cn (h : St w1 D v ns va os m W) : Cn ns := h.tr1.cn h.rs
end
theorem Cp.hd1 {xs ys : List Nd} {k j : Int} {ks js : List Int} {c : Nat} (h : Cp xs ys (k :: ks) (j :: js) c) {x y : Nd} (hx : xs[k.toNat]? = some x) (hy : ys[j.toNat]? = some y) : ndS x y = true := by
  cases h with
  | cons p1 p2 _ _ p5 _ _ _ =>
    rw [p1] at hx
    rw [p2] at hy
    cases hx
    cases hy
    exact p5
/-- the copy is walked as the node -/
theorem takes_plain {ns ys : List Nd} {i c : Nat} {o : List (Int × Nat)} (h : Tr (ns.map Nd.pl)) (hi : i < ns.length) (hcp : Cp ns ys [(i : Int)] [1] c) (hcl : c ≤ ys.length) (hw : Wk (ns.map Nd.pl) (chQ (ns.map Nd.pl) i) 1 o) :
    o.length ≤ ys.length ∧ ∃ o', o'.length = o.length ∧ (∀ (q : Nat) (p : Int × Nat), o[q]? = some p → ∃ k', o'[q]? = some (k', p.2) ∧ inN ys k' = true ∧ atN ys k' Nd.kind 0 = atN ns p.1 Nd.kind 0) ∧ ∃ lf, Vis ys ys.length (kdN ys (srcN ys 1)) 1 o' lf true := by
  cases hcp with
  | @cons _ _ _ _ x y a b c2 h1 h2 h3 h4 h5 g1 g2 g3 =>
    obtain ⟨c3, hs, hc3⟩ := Cp.src h1 h2 h3 h4 g1 g2
    rw [ch_pl h (by omega) (by omega)] at hs
    have hch : ∀ c ∈ chQ (ns.map Nd.pl) i, 0 ≤ c ∧ c < ns.length := fun c hc => by
      obtain ⟨x', hx'⟩ : ∃ x, (ns.map Nd.pl)[i]? = some x := ⟨_, List.getElem?_eq_getElem (by rw [List.length_map]; omega)⟩
      obtain ⟨_, _, _, _, h4, _⟩ := h.ch hx'
      have := h4 c hc
      rw [List.length_map] at this
      exact ⟨this.1, this.2.1⟩
    obtain ⟨e0, o', e1, e2, e3⟩ := hw.copy h hch _ _ hs
    exact ⟨by omega, o', e1, e2, _, e3 ys.length (by omega)⟩
/-- attributes of what is copied -/
theorem Tk.atr {ns : List Nd} (hs : ∀ x ∈ ns, x.attrs = []) {m : Nat} {I : List (Int × Int)} {L : List (Nat × Int)} {N : List Nd} (h : Tk ns m I L N) : ∀ z ∈ N, z.attrs = [] := by
  induction h with
  | nil => intro z hz; cases hz
  | @plain m k up rest L N x h1 h2 h3 h4 ih =>
    intro z hz
    rcases List.mem_cons.1 hz with rfl | hz
    · exact hs x (List.mem_of_getElem? h1)
    · exact ih z hz
  | @tpl m k up rest L N x h1 h2 h3 h4 ih =>
    intro z hz
    rcases List.mem_cons.1 hz with rfl | hz
    · exact hs x (List.mem_of_getElem? h1)
    · rcases List.mem_cons.1 hz with rfl | hz
      · rfl
      · exact ih z hz
theorem P2.small {ms N : List Nd} {L' : List (Nat × Int)} {ys : List Nd} (h : P2 ms N L' L'.length ys) (hm : ∀ x ∈ ms, x.attrs = [] ∧ x.kids = []) (hN : ∀ z ∈ N, z.attrs = []) (hL : L'.length ≤ N.length) (hN1 : N.length ≤ 1000000) : ∀ y ∈ ys, y.attrs.length ≤ 1000000 ∧ y.kids.length ≤ 1000000 := by
  intro y hy
  obtain ⟨j, hj⟩ := List.mem_iff_getElem?.1 hy
  have hjl := (List.getElem?_eq_some_iff.1 hj).1
  have hlen := h.len
  rcases Nat.lt_or_ge j ms.length with hlt | hge
  · obtain ⟨x, hx⟩ : ∃ x, ms[j]? = some x := ⟨_, List.getElem?_eq_getElem hlt⟩
    obtain ⟨y', hy', a, b, _⟩ := h.old j x hx
    rw [hj] at hy'
    cases hy'
    have := hm x (List.mem_of_getElem? hx)
    rw [a.2.2.2.2.1, b, this.1, this.2]
    simp
  · obtain ⟨z, hz⟩ : ∃ z, N[j - ms.length]? = some z := ⟨_, List.getElem?_eq_getElem (by omega)⟩
    obtain ⟨y', hy', a, b, _⟩ := h.new _ z hz
    rw [show ms.length + (j - ms.length) = j by omega, hj] at hy'
    cases hy'
    rw [a.2.2.2.2.1, b, hN z (List.mem_of_getElem? hz)]
    refine ⟨by simp, ?_⟩
    unfold ck
    rw [List.length_map]
    have h1 := List.length_filter_le (fun p : Nat × Int => p.2 == ((ms.length + (j - ms.length) : Nat) : Int)) (L'.take L'.length)
    rw [List.take_length] at h1
    rw [List.take_length]
    omega
theorem cat_ne (s : ByteArray) : s ≠ s ++ (⟨#[120]⟩ : ByteArray) := by
  intro h
  have := congrArg ByteArray.size h
  rw [ByteArray.size_append] at this
  have h2 : (⟨#[120]⟩ : ByteArray).size = 1 := rfl
  omega
/-- what lies there all along -/
structure TL (w1 : World) (D : Nat) (v : Value) (ns : List Nd) (va : Value) (os : List Ow) (P0 B6 B8 b2 D2 : Nat) (v2 : Value) (ys : List Nd) (W : World) : Prop where
  st : St w1 D v ns va os 60 W
  b5 : W.heap[P0]? = some (.cells #[.bool false] 4 (0, 0))
  b6 : W.heap[B6]? = some (.cells #[va] 45 (0, 0))
  b8 : W.heap[B8]? = some (.cells #[.pointer (some ⟨D2, 0, none⟩)] 23 (0, 0))
  de : DocM b2 D2 v2 false ys W
  sep : ∀ k, DB D2 v2 ys k → ¬ DB D v ns k ∧ ¬ OB va os k ∧ k ≠ P0 ∧ k ≠ B6 ∧ k ≠ B8 ∧ w1.heap.size ≤ k
  own : ∀ k, DB D v ns k ∨ OB va os k → k < B6
  plt : P0 < w1.heap.size
  bl : w1.heap.size ≤ B6 ∧ B6 < B8
section
variable {w1 : World} {D : Nat} {v : Value} {ns : List Nd} {va : Value} {os : List Ow} {P0 B6 B8 b2 D2 : Nat} {v2 v3 : Value} {ys zs : List Nd} {W W' : World}
theorem TL.keep {S : Nat → Prop} (h : TL w1 D v ns va os P0 B6 B8 b2 D2 v2 ys W) (hf : Frm S W W') (hS : ∀ k, S k → B8 < k ∧ ¬ DB D2 v2 ys k) : TL w1 D v ns va os P0 B6 B8 b2 D2 v2 ys W' := by
  have hp := h.plt
  have hb := h.bl
  have bl : ∀ {k : Nat} {x : Obj}, k ≤ B8 → W.heap[k]? = some x → W'.heap[k]? = some x := fun hk hx => (hf.block _ (Array.getElem?_eq_some_iff.1 hx).1 (fun e => by have := (hS _ e).1; omega)).trans hx
  exact ⟨h.st.keep hf (fun k e => ⟨by have := (hS k e).1; omega, fun e2 => by have := h.own k (.inl e2); have := (hS k e).1; omega, fun e2 => by have := h.own k (.inr e2); have := (hS k e).1; omega⟩), bl (by omega) h.b5, bl (by omega) h.b6, bl (by omega) h.b8,
    h.de.keep hf (fun k hk e => (hS k e).2 hk), h.sep, h.own, h.plt, h.bl⟩
theorem TL.below (h : TL w1 D v ns va os P0 B6 B8 b2 D2 v2 ys W) (hb : Below W.heap.size W W') : TL w1 D v ns va os P0 B6 B8 b2 D2 v2 ys W' := h.keep (S := fun _ => False) (Frm.below hb) (fun _ e => e.elim)
theorem TL.adds (h : TL w1 D v ns va os P0 B6 B8 b2 D2 v2 ys W) (ha : Adds b2 D2 v2 false ys zs W W') : ∃ v3, TL w1 D v ns va os P0 B6 B8 b2 D2 v3 zs W' := by
  obtain ⟨v', hd, hf, hn⟩ := ha
  have hp := h.plt
  have hb := h.bl
  have h8 := (Array.getElem?_eq_some_iff.1 h.b8).1
  have bl : ∀ {k : Nat} {x : Obj}, (k = P0 ∨ k = B6 ∨ k = B8) → W.heap[k]? = some x → W'.heap[k]? = some x := fun hk hx => (hf.block _ (Array.getElem?_eq_some_iff.1 hx).1 (fun e => by have := h.sep _ e; omega)).trans hx
  refine ⟨v', h.st.keep hf (fun k e => ⟨(h.sep k e).2.2.2.2.2, (h.sep k e).1, (h.sep k e).2.1⟩), bl (.inl rfl) h.b5, bl (.inr (.inl rfl)) h.b6, bl (.inr (.inr rfl)) h.b8, hd, fun k hk => ?_, h.own, h.plt, h.bl⟩
  rcases hn k hk with e | e
  · exact h.sep k e
  · exact ⟨fun e2 => by have := h.own k (.inl e2); omega, fun e2 => by have := h.own k (.inr e2); omega, by omega, by omega, by omega, by omega⟩
theorem TL.bw (h : TL w1 D v ns va os P0 B6 B8 b2 D2 v2 ys W) : Below w1.heap.size w1 W := h.st.bw
end
end Go.Proofs.Ytodlcfhkiilpgaa
