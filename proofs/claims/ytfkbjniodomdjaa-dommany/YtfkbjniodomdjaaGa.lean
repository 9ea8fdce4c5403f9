/- A node of a tree turned in its place: its field, its kids. -/
import Derived.Test.YtfkbjniodomdjaaEf
namespace Go.Proofs.Ytfkbjniodomdjaa
open Go.RowKit Go.Lib

/-- a cell of a row of one's own turned -/
theorem own_turnN {W : World} {b n sz : Nat} {e : TypeId} {v : Value} {xs : List Value} {g : Nat} (h : W.ownsRow b e sz v n xs) (hg : v.ownBlock = some g) (i : Nat) (u : Value) : (W.setCell ⟨g, i, none⟩ u).ownsRow b e sz v n (xs.set i u) := by
  refine ⟨by rw [List.length_set]; exact h.1, ?_⟩
  rcases h.2 with ⟨rfl, _⟩ | ⟨g', cap, cur, rfl, hb, hgg, hn, hm, hcs, htk⟩
  · cases hg
  · simp [Value.ownBlock] at hg
    subst hg
    refine .inr ⟨g', cap, cur.setIfInBounds i u, rfl, hb, by simp [World.setCell, Array.getElem?_modify, hgg], hn, hm, by simpa using hcs, ?_⟩
    rw [Array.toList_setIfInBounds, List.take_set, htk]
theorem cellsN_set : ∀ (ns : List Nd) (i j : Nat) (x x' : Nd) (u : Value), ns[i]? = some x → j < 10 → x'.cs = x.cs.set j u → cellsN (ns.set i x') = (cellsN ns).set (i * 10 + j) u
  | [], i, j, x, x', u, h, _, _ => by simp at h
  | y :: ns, 0, j, x, x', u, h, hj, hc => by
    simp at h
    subst h
    show x'.cs ++ cellsN ns = (y.cs ++ cellsN ns).set (0 * 10 + j) u
    have hl : y.cs.length = 10 := rfl
    rw [hc, Nat.zero_mul, Nat.zero_add, List.set_append_left _ _ (by omega)]
  | y :: ns, i + 1, j, x, x', u, h, hj, hc => by
    show y.cs ++ cellsN (ns.set i x') = (y.cs ++ cellsN ns).set ((i + 1) * 10 + j) u
    have hl : y.cs.length = 10 := rfl
    rw [cellsN_set ns i j x x' u (by simpa using h) hj hc, List.set_append_right _ _ (by omega), hl, show (i + 1) * 10 + j - 10 = i * 10 + j by omega]
section
variable {base D : Nat} {v : Value} {qk : Bool} {ns : List Nd} {W W' : World}
/-- a node turned: its row's cells, its kids; its attributes stay -/
theorem DocM.upd {i : Nat} {x x' : Nd} (h : DocM base D v qk ns W) (hx : ns[i]? = some x) (hf : Frm (fun k => v.ownBlock = some k ∨ x.kv.ownBlock = some k) W W')
    (hrow : W'.ownsRow base 53 10 v ns.length (cellsN (ns.set i x'))) (hk : W'.ownsRow base 3 1 x'.kv x'.kids.length (x'.kids.map (Value.int .i64)))
    (ha : x'.av = x.av) (haa : x'.attrs = x.attrs) (hkb : ∀ k, x'.kv.ownBlock = some k → x.kv.ownBlock = some k ∨ W.heap.size ≤ k) :
    DocM base D v qk (ns.set i x') W' ∧ Frm (DB D v ns) W W' ∧ ∀ k, DB D v (ns.set i x') k → DB D v ns k ∨ W.heap.size ≤ k := by
  have hil := (List.getElem?_eq_some_iff.1 hx).1
  have hg : ∀ (j : Nat) (y : Nd), (ns.set i x')[j]? = some y → (j = i ∧ y = x') ∨ (j ≠ i ∧ ns[j]? = some y) := by
    intro j y hy
    by_cases e : j = i
    · subst e
      rw [List.getElem?_set_self hil] at hy
      exact .inl ⟨rfl, (Option.some.inj hy).symm⟩
    · rw [List.getElem?_set_ne (fun h => e h.symm)] at hy
      exact .inr ⟨e, hy⟩
  have hvk : ∀ (j : Nat) (y : Nd), ns[j]? = some y → ∀ k, y.kv.ownBlock = some k → v.ownBlock ≠ some k := fun j y hy => rows_neN (h.kids j y hy) h.row (by decide)
  have hva : ∀ (j : Nat) (y : Nd), ns[j]? = some y → ∀ k, y.av.ownBlock = some k → v.ownBlock ≠ some k := fun j y hy => rows_neN (h.attrs j y hy) h.row (by decide)
  have hka : ∀ (j : Nat) (y : Nd), ns[j]? = some y → ∀ k, y.av.ownBlock = some k → x.kv.ownBlock ≠ some k := fun j y hy => rows_neN (h.attrs j y hy) (h.kids i x hx) (by decide)
  refine ⟨⟨?_, by rw [List.length_set]; exact hrow, ?_, ?_, ?_, h.ge⟩, hf.mono (fun k e => ?_), ?_⟩
  · exact (hf.block D h.lt (fun e => by
      rcases e with e | e
      · exact h.row_neD e
      · exact Ytfkbjniodomdjaa.row_neD (h.kids i x hx) h.hd (by decide) e)).trans h.hd
  · intro j y hy
    rcases hg j y hy with ⟨rfl, rfl⟩ | ⟨hne, hy⟩
    · exact hk
    · exact hf.own (h.kids j y hy) (fun k e e2 => by
        rcases e2 with e2 | e2
        · exact hvk j y hy k e e2
        · exact hne (h.apart j i y x k hy hx e e2))
  · intro j y hy
    have key : ∀ (y : Nd), ns[j]? = some y → W'.ownsRow base 57 2 y.av y.attrs.length (cellsA y.attrs) := fun y hy => hf.own (h.attrs j y hy) (fun k e e2 => by
      rcases e2 with e2 | e2
      · exact hva j y hy k e e2
      · exact hka j y hy k e e2)
    rcases hg j y hy with ⟨rfl, rfl⟩ | ⟨_, hy⟩
    · rw [ha, haa]
      exact key x hx
    · exact key y hy
  · intro j1 j2 y1 y2 g h1 h2 e1 e2
    rcases hg j1 y1 h1 with ⟨a1, b1⟩ | ⟨n1, q1⟩
    · rcases hg j2 y2 h2 with ⟨a2, b2⟩ | ⟨n2, q2⟩
      · omega
      · rcases hkb g (b1 ▸ e1) with e | e
        · rw [a1]; exact h.apart i j2 x y2 g hx q2 e e2
        · have := ((h.kids j2 y2 q2).lt g e2).2; omega
    · rcases hg j2 y2 h2 with ⟨a2, b2⟩ | ⟨n2, q2⟩
      · rcases hkb g (b2 ▸ e2) with e | e
        · rw [a2]; exact h.apart j1 i y1 x g q1 hx e1 e
        · have := ((h.kids j1 y1 q1).lt g e1).2; omega
      · exact h.apart j1 j2 y1 y2 g q1 q2 e1 e2
  · rcases e with e | e
    · exact .inr (.inl e)
    · exact .inr (.inr ⟨i, x, hx, .inl e⟩)
  · rintro k (rfl | e | ⟨j, y, hy, e⟩)
    · exact .inl (.inl rfl)
    · exact .inl (.inr (.inl e))
    · rcases hg j y hy with ⟨rfl, rfl⟩ | ⟨_, hy⟩
      · rcases e with e | e
        · rcases hkb k e with e | e
          · exact .inl (.inr (.inr ⟨j, x, hx, .inl e⟩))
          · exact .inr e
        · exact .inl (.inr (.inr ⟨j, x, hx, .inr (by rw [← ha]; exact e)⟩))
      · exact .inl (.inr (.inr ⟨j, y, hy, e⟩))
/-- one field of one node turned, not the kids -/
theorem DocM.fld {i j : Nat} {x x' : Nd} {g c : Nat} {u : Value} (h : DocM base D (.slice (some ⟨g, 0, none⟩) ns.length c) qk ns W) (hx : ns[i]? = some x) (hj : j < 10) (hc : x'.cs = x.cs.set j u) (hk : x'.kv = x.kv) (hkk : x'.kids = x.kids) (ha : x'.av = x.av) (haa : x'.attrs = x.attrs) :
    DocM base D (.slice (some ⟨g, 0, none⟩) ns.length c) qk (ns.set i x') (W.setCell ⟨g, i * 10 + j, none⟩ u) ∧ Frm (DB D (.slice (some ⟨g, 0, none⟩) ns.length c) ns) W (W.setCell ⟨g, i * 10 + j, none⟩ u) ∧ ∀ k, DB D (.slice (some ⟨g, 0, none⟩) ns.length c) (ns.set i x') k → DB D (.slice (some ⟨g, 0, none⟩) ns.length c) ns k ∨ W.heap.size ≤ k := by
  have hf : Frm (fun k => (Value.slice (some ⟨g, 0, none⟩) ns.length c).ownBlock = some k ∨ x.kv.ownBlock = some k) W (W.setCell ⟨g, i * 10 + j, none⟩ u) := Frm.set u (.inl rfl)
  refine h.upd hx hf ?_ ?_ ha haa (fun k e => .inl (hk ▸ e))
  · rw [cellsN_set ns i j x x' u hx hj hc]
    exact own_turnN h.row rfl _ u
  · rw [hk, hkk]
    exact (Frm.set (S := fun k => k = g) u rfl).own (h.kids i x hx) (fun k e e2 => by
      subst e2
      exact rows_neN (h.kids i x hx) h.row (by decide) k e rfl)
end
end Go.Proofs.Ytfkbjniodomdjaa
