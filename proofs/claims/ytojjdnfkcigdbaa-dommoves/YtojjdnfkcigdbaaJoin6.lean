/- A node of a tree turned in its place: its field, its kids. A node more in what the laws of layer 8 keep. -/
import Derived.Test.YtojjdnfkcigdbaaJoin5
import Derived.Test.YtojjdnfkcigdbaaJoin4
namespace Go.Proofs.Ytojjdnfkcigdbaa
open Go.RowKit Go.Lib

/-- a cell of a row of one's own turned -/
theorem own_turnN {W : World} {b n sz : Nat} {e : TypeId} {v : Value} {xs : List Value} {g : Nat} (h : W.ownsRow b e sz v n xs) (hg : v.ownBlock = some g) (i : Nat) (u : Value) : (W.setCell ⟨g, i, none⟩ u).ownsRow b e sz v n (xs.set i u) := by
  refine ⟨by rw [List.length_set]; exact h.1, ?_⟩
  rcases h.2 with ⟨rfl, _⟩ | ⟨g', cap, cur, rfl, hb, hgg, hn, hm, hcs, htk⟩
  · cases hg
  · simp [Value.ownBlock] at hg
    subst hg
    refine .inr ⟨g', cap, cur.setIfInBounds i u, rfl, hb, by simp [World.setCell, Array.getElem?_modify, hgg], hn, hm, by simpa using hcs, ?_⟩
    rw [Array.toList_setIfInBounds, List.take_set, htk]
theorem cellsN_set : ∀ (ns : List Nd) (i j : Nat) (x x' : Nd) (u : Value), ns[i]? = some x → j < 10 → x'.cs = x.cs.set j u → cellsN (ns.set i x') = (cellsN ns).set (i * 10 + j) u
  | [], i, j, x, x', u, h, _, _ => by simp at h
  | y :: ns, 0, j, x, x', u, h, hj, hc => by
    simp at h
    subst h
    show x'.cs ++ cellsN ns = (y.cs ++ cellsN ns).set (0 * 10 + j) u
    have hl : y.cs.length = 10 := rfl
    rw [hc, Nat.zero_mul, Nat.zero_add, List.set_append_left _ _ (by omega)]
  | y :: ns, i + 1, j, x, x', u, h, hj, hc => by
    show y.cs ++ cellsN (ns.set i x') = (y.cs ++ cellsN ns).set ((i + 1) * 10 + j) u
    have hl : y.cs.length = 10 := rfl
    rw [cellsN_set ns i j x x' u (by simpa using h) hj hc, List.set_append_right _ _ (by omega), hl, show (i + 1) * 10 + j - 10 = i * 10 + j by omega]
section
variable {base D : Nat} {v : Value} {qk : Bool} {ns : List Nd} {W W' : World}
/-- a node turned: its row's cells, its kids; its attributes stay -/
theorem DocM.upd {i : Nat} {x x' : Nd} (h : DocM base D v qk ns W) (hx : ns[i]? = some x) (hf : Frm (fun k => v.ownBlock = some k ∨ x.kv.ownBlock = some k) W W')
    (hrow : W'.ownsRow base 53 10 v ns.length (cellsN (ns.set i x'))) (hk : W'.ownsRow base 3 1 x'.kv x'.kids.length (x'.kids.map (Value.int .i64)))
    (ha : x'.av = x.av) (haa : x'.attrs = x.attrs) (hkb : ∀ k, x'.kv.ownBlock = some k → x.kv.ownBlock = some k ∨ W.heap.size ≤ k) :
    DocM base D v qk (ns.set i x') W' ∧ Frm (DB D v ns) W W' ∧ ∀ k, DB D v (ns.set i x') k → DB D v ns k ∨ W.heap.size ≤ k := by
  have hil := (List.getElem?_eq_some_iff.1 hx).1
  have hg : ∀ (j : Nat) (y : Nd), (ns.set i x')[j]? = some y → (j = i ∧ y = x') ∨ (j ≠ i ∧ ns[j]? = some y) := by
    intro j y hy
    by_cases e : j = i
    · subst e
      rw [List.getElem?_set_self hil] at hy
      exact .inl ⟨rfl, (Option.some.inj hy).symm⟩
    · rw [List.getElem?_set_ne (fun h => e h.symm)] at hy
      exact .inr ⟨e, hy⟩
  have hvk : ∀ (j : Nat) (y : Nd), ns[j]? = some y → ∀ k, y.kv.ownBlock = some k → v.ownBlock ≠ some k := fun j y hy => rows_neN (h.kids j y hy) h.row (by decide)
  have hva : ∀ (j : Nat) (y : Nd), ns[j]? = some y → ∀ k, y.av.ownBlock = some k → v.ownBlock ≠ some k := fun j y hy => rows_neN (h.attrs j y hy) h.row (by decide)
  have hka : ∀ (j : Nat) (y : Nd), ns[j]? = some y → ∀ k, y.av.ownBlock = some k → x.kv.ownBlock ≠ some k := fun j y hy => rows_neN (h.attrs j y hy) (h.kids i x hx) (by decide)
  refine ⟨⟨?_, by rw [List.length_set]; exact hrow, ?_, ?_, ?_, h.ge⟩, hf.mono (fun k e => ?_), ?_⟩
  · exact (hf.block D h.lt (fun e => by
      rcases e with e | e
      · exact h.row_neD e
      · exact Ytojjdnfkcigdbaa.row_neD (h.kids i x hx) h.hd (by decide) e)).trans h.hd
  · intro j y hy
    rcases hg j y hy with ⟨rfl, rfl⟩ | ⟨hne, hy⟩
    · exact hk
    · exact hf.own (h.kids j y hy) (fun k e e2 => by
        rcases e2 with e2 | e2
        · exact hvk j y hy k e e2
        · exact hne (h.apart j i y x k hy hx e e2))
  · intro j y hy
    have key : ∀ (y : Nd), ns[j]? = some y → W'.ownsRow base 57 2 y.av y.attrs.length (cellsA y.attrs) := fun y hy => hf.own (h.attrs j y hy) (fun k e e2 => by
      rcases e2 with e2 | e2
      · exact hva j y hy k e e2
      · exact hka j y hy k e e2)
    rcases hg j y hy with ⟨rfl, rfl⟩ | ⟨_, hy⟩
    · rw [ha, haa]
      exact key x hx
    · exact key y hy
  · intro j1 j2 y1 y2 g h1 h2 e1 e2
    rcases hg j1 y1 h1 with ⟨a1, b1⟩ | ⟨n1, q1⟩
    · rcases hg j2 y2 h2 with ⟨a2, b2⟩ | ⟨n2, q2⟩
      · omega
      · rcases hkb g (b1 ▸ e1) with e | e
        · rw [a1]; exact h.apart i j2 x y2 g hx q2 e e2
        · have := ((h.kids j2 y2 q2).lt g e2).2; omega
    · rcases hg j2 y2 h2 with ⟨a2, b2⟩ | ⟨n2, q2⟩
      · rcases hkb g (b2 ▸ e2) with e | e
        · rw [a2]; exact h.apart j1 i y1 x g q1 hx e1 e
        · have := ((h.kids j1 y1 q1).lt g e1).2; omega
      · exact h.apart j1 j2 y1 y2 g q1 q2 e1 e2
  · rcases e with e | e
    · exact .inr (.inl e)
    · exact .inr (.inr ⟨i, x, hx, .inl e⟩)
  · rintro k (rfl | e | ⟨j, y, hy, e⟩)
    · exact .inl (.inl rfl)
    · exact .inl (.inr (.inl e))
    · rcases hg j y hy with ⟨rfl, rfl⟩ | ⟨_, hy⟩
      · rcases e with e | e
        · rcases hkb k e with e | e
          · exact .inl (.inr (.inr ⟨j, x, hx, .inl e⟩))
          · exact .inr e
        · exact .inl (.inr (.inr ⟨j, x, hx, .inr (by rw [← ha]; exact e)⟩))
      · exact .inl (.inr (.inr ⟨j, y, hy, e⟩))
/-- one field of one node turned, not the kids -/
theorem DocM.fld {i j : Nat} {x x' : Nd} {g c : Nat} {u : Value} (h : DocM base D (.slice (some ⟨g, 0, none⟩) ns.length c) qk ns W) (hx : ns[i]? = some x) (hj : j < 10) (hc : x'.cs = x.cs.set j u) (hk : x'.kv = x.kv) (hkk : x'.kids = x.kids) (ha : x'.av = x.av) (haa : x'.attrs = x.attrs) :
    DocM base D (.slice (some ⟨g, 0, none⟩) ns.length c) qk (ns.set i x') (W.setCell ⟨g, i * 10 + j, none⟩ u) ∧ Frm (DB D (.slice (some ⟨g, 0, none⟩) ns.length c) ns) W (W.setCell ⟨g, i * 10 + j, none⟩ u) ∧ ∀ k, DB D (.slice (some ⟨g, 0, none⟩) ns.length c) (ns.set i x') k → DB D (.slice (some ⟨g, 0, none⟩) ns.length c) ns k ∨ W.heap.size ≤ k := by
  have hf : Frm (fun k => (Value.slice (some ⟨g, 0, none⟩) ns.length c).ownBlock = some k ∨ x.kv.ownBlock = some k) W (W.setCell ⟨g, i * 10 + j, none⟩ u) := Frm.set u (.inl rfl)
  refine h.upd hx hf ?_ ?_ ha haa (fun k e => .inl (hk ▸ e))
  · rw [cellsN_set ns i j x x' u hx hj hc]
    exact own_turnN h.row rfl _ u
  · rw [hk, hkk]
    exact (Frm.set (S := fun k => k = g) u rfl).own (h.kids i x hx) (fun k e e2 => by
      subst e2
      exact rows_neN (h.kids i x hx) h.row (by decide) k e rfl)
end
end Go.Proofs.Ytojjdnfkcigdbaa
namespace Go.Proofs.Ytojjdnfkcigdbaa
open Go.RowKit Go.Shelf Go.Lib
attribute [local go_sem] Oper.semAt_some

theorem infoOw : (Try.prog.info? 39).map (fun i => (i.zero, i.size, i.bytes)) = some (some (.agg #[.int .i64 0, .string ⟨#[]⟩, .string ⟨#[]⟩, .int .i64 0, .slice none 0 0, .int .i64 0]), 6, 80) := by kernel_rfl
/-- what a law's call leaves that turns its list where it lies -/
def TrO (base : Nat) (v : Value) (os os' : List Ow) (W W' : World) : Prop :=
  OwM base v os' W' ∧ Frm (fun k => v.ownBlock = some k) W W' ∧ ∀ k, OB v os' k → OB v os k ∨ W.heap.size ≤ k
/-- what a call leaves that makes the list longer -/
def AdO (base : Nat) (v : Value) (os os' : List Ow) (W W' : World) : Prop :=
  ∃ v', OwM base v' os' W' ∧ Frm (fun k => v.ownBlock = some k) W W' ∧ ∀ k, OB v' os' k → OB v os k ∨ W.heap.size ≤ k
def tplQ (x : Pl) : Bool := x.kind == 2 && x.name.toList == [116, 101, 109, 112, 108, 97, 116, 101]
/-- the nodes that come: one, and a template's page -/
def newQ (n : Nat) (x : Pl) : List Pl := if tplQ x then [{ x with up := -1, kids := [], inner := (n : Int) + 1 }, ⟨1, ⟨#[]⟩, ⟨#[]⟩, -1, [], -1⟩] else [{ x with up := -1, kids := [], inner := -1 }]
theorem newQ_tr {ps : List Pl} (h : Tr ps) {x : Pl} (hk : 1 ≤ x.kind) : Tr (ps ++ newQ ps.length x) := by
  unfold newQ
  split
  · rename_i ht
    have hk2 : x.kind = 2 := by unfold tplQ at ht; simp only [Bool.and_eq_true, beq_iff_eq] at ht; exact ht.1
    refine tr_push h (fun j y hy => ?_) (by simp)
    match j, hy with
    | 0, hy => simp at hy; subst hy; exact ⟨rfl, rfl, hk, .inr ⟨by simp, hk2, _, rfl, rfl⟩⟩
    | 1, hy => simp at hy; subst hy; exact ⟨rfl, rfl, (show (1 : Int) ≤ 1 by omega), .inl rfl⟩
    | j + 2, hy => simp at hy
  · refine tr_push h (fun j y hy => ?_) (by simp)
    match j, hy with
    | 0, hy => simp at hy; subst hy; exact ⟨rfl, rfl, hk, .inl rfl⟩
    | j + 1, hy => simp at hy
theorem OwM.push {base : Nat} {v v' : Value} {os xs : List Ow} {W W' : World} (h : OwM base v os W) (hf : Frm (fun k => v.ownBlock = some k) W W') (hr : W'.ownsRow base 39 6 v' (os.length + xs.length) (cellsO os ++ cellsO xs)) (hx : ∀ x ∈ xs, x.kv = .slice none 0 0 ∧ x.pl.kids = []) : OwM base v' (os ++ xs) W' := by
  refine ⟨by rw [cellsO_snoc, List.length_append]; exact hr, fun i x hi => ?_⟩
  rcases Nat.lt_or_ge i os.length with hlt | hge
  · rw [List.getElem?_append_left hlt] at hi
    exact hf.own (h.kids i x hi) (fun k e e2 => rows_neN (h.kids i x hi) h.row (by decide) k e e2)
  · rw [List.getElem?_append_right hge] at hi
    obtain ⟨e1, e2⟩ := hx x (List.mem_of_getElem? hi)
    rw [e1, e2]
    exact World.ownsRow_nil _ _ _ _
theorem OB.push {v v' : Value} {os xs : List Ow} {W : World} (hv : v'.ownBlock = v.ownBlock ∨ ∃ g, v'.ownBlock = some g ∧ W.heap.size ≤ g) (hx : ∀ x ∈ xs, x.kv = .slice none 0 0 ∧ x.pl.kids = []) : ∀ k, OB v' (os ++ xs) k → OB v os k ∨ W.heap.size ≤ k := by
  rintro k (e | ⟨i, x, hi, e⟩)
  · rcases hv with h | ⟨g, h, hg⟩
    · exact .inl (.inl (h ▸ e))
    · rw [h] at e; cases e; exact .inr hg
  · rcases Nat.lt_or_ge i os.length with hlt | hge
    · rw [List.getElem?_append_left hlt] at hi; exact .inl (.inr ⟨i, x, hi, e⟩)
    · rw [List.getElem?_append_right hge] at hi
      rw [(hx x (List.mem_of_getElem? hi)).1] at e
      cases e
theorem ow_one (x : Pl) : ∀ u ∈ (Ow.mk x (.slice none 0 0)).cs, u.oneCell' = true := by
  intro u hu
  simp only [Ow.cs, List.mem_cons, List.not_mem_nil, or_false] at hu
  rcases hu with rfl | rfl | rfl | rfl | rfl | rfl <;> rfl
section
variable {base : Nat} {v : Value} {os : List Ow} {W W' : World}
set_option maxRecDepth 100000 in
set_option maxHeartbeats 2000000 in
theorem ladd_any (x : Pl) (W : World) (h : OwM base v os W) (hb : base ≤ W.heap.size) (hl : os.length ≤ 1000000) :
    Calls Try.prog 36 #[v, .agg #[.int .i64 x.kind, .string x.name, .string x.data, .int .i64 x.up, .slice none 0 0, .int .i64 x.inner]] W fun e W' =>
      ∃ v' os', e = .returned v' ∧ os'.map Ow.pl = os.map Ow.pl ++ newQ os.length x ∧ OwM base v' os' W' ∧ Frm (fun k => v.ownBlock = some k) W W' ∧ ∀ k, OB v' os' k → OB v os k ∨ W.heap.size ≤ k := by
  obtain ⟨i0, hi, hz0, hz1, hz2⟩ := info_parts infoOw
  obtain ⟨W1, hW1⟩ : ∃ W1, W.alloc (.cells #[.int .i64 x.kind, .string x.name, .string x.data, .int .i64 x.up, .slice none 0 0, .int .i64 x.inner] 39) = W1 := ⟨_, rfl⟩
  have hs1 : W1.heap.size = W.heap.size + 1 := by rw [← hW1, World.size_alloc]
  have hb1 : Below W.heap.size W W1 := by rw [← hW1]; exact (Below.refl _ W).alloc (Nat.le_refl _) _
  have g1 : W1.heap[W.heap.size]? = some (.cells #[.int .i64 x.kind, .string x.name, .string x.data, .int .i64 x.up, .slice none 0 0, .int .i64 x.inner] 39 (0, 0)) := by rw [← hW1]; exact heap_alloc_new W _
  obtain ⟨An, cap, rfl, hle, hmx, hg⟩ := h.sl
  have k0 : W1.cell? ⟨W.heap.size, 0, none⟩ = some (.int .i64 x.kind) := by rw [cell_of_row _ _ _ _ _ _ g1]; rfl
  have k1 : W1.cell? ⟨W.heap.size, 1, none⟩ = some (.string x.name) := by rw [cell_of_row _ _ _ _ _ _ g1]; rfl
  have k2 : W1.cell? ⟨W.heap.size, 2, none⟩ = some (.string x.data) := by rw [cell_of_row _ _ _ _ _ _ g1]; rfl
  have k3 : W1.cell? ⟨W.heap.size, 3, none⟩ = some (.int .i64 x.up) := by rw [cell_of_row _ _ _ _ _ _ g1]; rfl
  have k4 : W1.cell? ⟨W.heap.size, 4, none⟩ = some (.slice none 0 0) := by rw [cell_of_row _ _ _ _ _ _ g1]; rfl
  have k5 : W1.cell? ⟨W.heap.size, 5, none⟩ = some (.int .i64 x.inner) := by rw [cell_of_row _ _ _ _ _ _ g1]; rfl
  have H := Lib.hid h
  have HB1 := Lib.hid hb1
  have G1 := Lib.hid g1
  have HG := Lib.hid hg
  have HMX := Lib.hid hmx
  clear h hb1 g1 hg hmx
  subst hW1
  have FB := Lib.hid (fun (X Y : Array Value) => show Below W.heap.size W ((W.alloc (.cells X 39)).alloc (.cells Y 39)) from ((Below.refl _ W).alloc (Nat.le_refl _) _).alloc (by rw [World.size_alloc]; omega) _)
  have FS := Lib.hid (fun (X Y : Array Value) => show base ≤ ((W.alloc (.cells X 39)).alloc (.cells Y 39)).heap.size by simp; omega)
  have FN := Lib.hid (fun (X : Array Value) (l : List Value) => cells_add (w := (W.alloc (.cells X 39)).alloc (.cells l.toArray 39)) (g := W.heap.size + 1) (t := 39) (l := l) (by have := heap_alloc_new (W.alloc (.cells X 39)) (.cells l.toArray 39); rw [World.size_alloc] at this; exact this))
  have H63 : Hid (os.length + 1 ≤ maxLen) := Lib.hid (by unfold maxLen; omega)
  have HBY : Hid ((os.length + 1) * 80 ≤ 140737488355328) := Lib.hid (by omega)
  have H64 : Hid (os.length + 1 + 1 ≤ maxLen) := Lib.hid (by unfold maxLen; omega)
  have HBY2 : Hid ((os.length + 1 + 1) * 80 ≤ 140737488355328) := Lib.hid (by omega)
  have NO : tplQ x = false → Hid (newQ os.length x = [{ x with up := -1, kids := [], inner := -1 }]) := fun h => Lib.hid (by unfold newQ; rw [h]; rfl)
  have YES : tplQ x = true → Hid (newQ os.length x = [{ x with up := -1, kids := [], inner := (os.length : Int) + 1 }, ⟨1, ⟨#[]⟩, ⟨#[]⟩, -1, [], -1⟩]) := fun h => Lib.hid (by unfold newQ; rw [h]; rfl)
  unfold tplQ at NO YES
  clear HB1 G1
  cases ht : (x.kind == 2) with
  | false =>
    have HQ := NO (by rw [ht]; rfl)
    clear NO YES
    go_enter Try.func36, Try.ntmps36
    go_wp2_with (at_builtin; refine wpList_append_own_at _ rfl _ _ 25 rfl base 39 i0 _ 6 80 Try.underlying25 hi hz0 hz1 hz2 rfl (by decide) _ os.length (cellsO os) rfl (own_keep H.out.row (FB.out _ _)) ⟨W.heap.size + 1, 0, none⟩ 1 1 (Ow.mk { x with up := -1, kids := [], inner := -1 } (.slice none 0 0)).cs rfl rfl (FN.out _ _) (ow_one _) H63.out HBY.out (FS.out _ _) ?_; intro v' w5 hown5 hgrow5 hz5 hblk5; clear hz5; have hf5 : Frm (fun k => (Value.slice An os.length cap).ownBlock = some k) W w5 := ((Frm.below (FB.out _ _)).trans (Frm.grown hgrow5 (fun k e => e))); replace hblk5 : v'.ownBlock = (Value.slice An os.length cap).ownBlock ∨ ∃ g, v'.ownBlock = some g ∧ W.heap.size ≤ g := (hblk5.imp id (fun e => ⟨_, e, by simp; omega⟩)); clear hgrow5)
    go_ret
    refine ⟨v', os ++ [Ow.mk { x with up := -1, kids := [], inner := -1 } (.slice none 0 0)], rfl, ?_, H.out.push (xs := [_]) hf5 (by simpa [cellsO] using hown5) (fun y hy => by rw [List.mem_singleton] at hy; subst hy; exact ⟨rfl, rfl⟩), hf5, OB.push hblk5 (fun y hy => by rw [List.mem_singleton] at hy; subst hy; exact ⟨rfl, rfl⟩)⟩
    rw [List.map_append, HQ.out]
    rfl
  | true =>
    cases hn : (x.name.toList == [116, 101, 109, 112, 108, 97, 116, 101]) with
    | false =>
      have HQ := NO (by rw [ht, hn]; rfl)
      clear NO YES
      go_enter Try.func36, Try.ntmps36
      go_wp2_with (at_builtin; refine wpList_append_own_at _ rfl _ _ 25 rfl base 39 i0 _ 6 80 Try.underlying25 hi hz0 hz1 hz2 rfl (by decide) _ os.length (cellsO os) rfl (own_keep H.out.row (FB.out _ _)) ⟨W.heap.size + 1, 0, none⟩ 1 1 (Ow.mk { x with up := -1, kids := [], inner := -1 } (.slice none 0 0)).cs rfl rfl (FN.out _ _) (ow_one _) H63.out HBY.out (FS.out _ _) ?_; intro v' w5 hown5 hgrow5 hz5 hblk5; clear hz5; have hf5 : Frm (fun k => (Value.slice An os.length cap).ownBlock = some k) W w5 := ((Frm.below (FB.out _ _)).trans (Frm.grown hgrow5 (fun k e => e))); replace hblk5 : v'.ownBlock = (Value.slice An os.length cap).ownBlock ∨ ∃ g, v'.ownBlock = some g ∧ W.heap.size ≤ g := (hblk5.imp id (fun e => ⟨_, e, by simp; omega⟩)); clear hgrow5)
      go_ret
      refine ⟨v', os ++ [Ow.mk { x with up := -1, kids := [], inner := -1 } (.slice none 0 0)], rfl, ?_, H.out.push (xs := [_]) hf5 (by simpa [cellsO] using hown5) (fun y hy => by rw [List.mem_singleton] at hy; subst hy; exact ⟨rfl, rfl⟩), hf5, OB.push hblk5 (fun y hy => by rw [List.mem_singleton] at hy; subst hy; exact ⟨rfl, rfl⟩)⟩
      rw [List.map_append, HQ.out]
      rfl
    | true =>
      have HQ := YES (by rw [ht, hn]; rfl)
      clear NO YES
      go_enter Try.func36, Try.ntmps36
      go_wp2_with (first
        | (at_builtin; refine wpList_append_own_at _ rfl _ _ 25 rfl base 39 i0 _ 6 80 Try.underlying25 hi hz0 hz1 hz2 rfl (by decide) v5 (os.length + 1) _ rfl (own_keep hown5 ((Below.refl _ w5).alloc (Nat.le_refl _) _)) ⟨w5.heap.size, 0, none⟩ 1 1 (Ow.mk ⟨1, ⟨#[]⟩, ⟨#[]⟩, -1, [], -1⟩ (.slice none 0 0)).cs rfl rfl (cells_add (heap_alloc_new w5 _)) (ow_one _) H64.out HBY2.out (by rw [World.size_alloc]; have := hf5.size; omega) ?_; intro v6 w6 hown6 hgrow6 hz6 hblk6; clear hz6)
        | (at_builtin; refine wpList_append_own_at _ rfl _ _ 25 rfl base 39 i0 _ 6 80 Try.underlying25 hi hz0 hz1 hz2 rfl (by decide) _ os.length (cellsO os) rfl (own_keep H.out.row (FB.out _ _)) ⟨W.heap.size + 1, 0, none⟩ 1 1 (Ow.mk { x with up := -1, kids := [], inner := (os.length : Int) + 1 } (.slice none 0 0)).cs rfl rfl (FN.out _ _) (ow_one _) H63.out HBY.out (FS.out _ _) ?_; intro v5 w5 hown5 hgrow5 hz5 hblk5; clear hz5; have hf5 : Frm (fun k => (Value.slice An os.length cap).ownBlock = some k) W w5 := ((Frm.below (FB.out _ _)).trans (Frm.grown hgrow5 (fun k e => e))); replace hblk5 : v5.ownBlock = (Value.slice An os.length cap).ownBlock ∨ ∃ g, v5.ownBlock = some g ∧ W.heap.size ≤ g := (hblk5.imp id (fun e => ⟨_, e, by simp; omega⟩)); clear hgrow5))
      go_ret
      have HF6 : Hid (Frm (fun k => (Value.slice An os.length cap).ownBlock = some k) W w6) := Lib.hid (by
        refine (hf5.trans' (Frm.alloc (fun _ => False) w5 _) (fun k e => e.elim)).trans' (Frm.grown hgrow6 (fun k e => e)) (fun k e => ?_)
        rcases hblk5 with h | ⟨g, h, hg⟩
        · exact .inl (h ▸ e)
        · rw [h] at e; cases e; exact .inr hg)
      refine ⟨v6, os ++ [Ow.mk { x with up := -1, kids := [], inner := (os.length : Int) + 1 } (.slice none 0 0), Ow.mk ⟨1, ⟨#[]⟩, ⟨#[]⟩, -1, [], -1⟩ (.slice none 0 0)], rfl, ?_, H.out.push (xs := [_, _]) HF6.out (by simpa [cellsO] using hown6) (fun y hy => by simp only [List.mem_cons, List.not_mem_nil, or_false] at hy; rcases hy with rfl | rfl <;> exact ⟨rfl, rfl⟩), HF6.out, OB.push ?_ (fun y hy => by simp only [List.mem_cons, List.not_mem_nil, or_false] at hy; rcases hy with rfl | rfl <;> exact ⟨rfl, rfl⟩)⟩
      · rw [List.map_append, HQ.out]
        rfl
      · rcases hblk6 with h | h
        · rw [h]; exact hblk5
        · exact .inr ⟨_, h, by have := hf5.size; simp; omega⟩
end
end Go.Proofs.Ytojjdnfkcigdbaa
