/- strings.Builder with a frame: WriteString turns its block and its row, nothing else. strings.Builder with a frame: String turns nothing but its row's mark. Words: all texts beneath a node. The contract of Words. The document's example of layer 8. The document's example of layer 8. -/
import Derived.Test.YtodlcfhkiilpgaaZE
import Derived.Test.YtodlcfhkiilpgaaZA
import Derived.Test.YtodlcfhkiilpgaaZB
import Derived.RangeFuncCalls
import Derived.Test.YtodlcfhkiilpgaaZC
import Derived.Test.YtodlcfhkiilpgaaZD
namespace Go.Proofs.Ytodlcfhkiilpgaa
open Go.RowKit

/-- a builder: its block b, its row v from base B on -/
def Bld (b B : Nat) (v : Value) (bs : List Value) (W : World) : Prop :=
  (∃ p, (p = .pointer none ∨ p = .pointer (some ⟨b, 0, none⟩)) ∧ W.heap[b]? = some (.cells #[p, v] 98 (0, 0))) ∧ W.ownsRow B 5 1 v bs.length bs ∧ v.ownBlock ≠ some b
theorem Bld.lt {b B : Nat} {v : Value} {bs : List Value} {W : World} (h : Bld b B v bs W) : b < W.heap.size := by
  obtain ⟨⟨p, _, h⟩, _⟩ := h
  exact (Array.getElem?_eq_some_iff.1 h).1
theorem Bld.keep {S : Nat → Prop} {b B : Nat} {v : Value} {bs : List Value} {W W' : World} (h : Bld b B v bs W) (hf : Frm S W W') (hb : ¬ S b) (hv : ∀ k, v.ownBlock = some k → ¬ S k) : Bld b B v bs W' := by
  have hl := h.lt
  obtain ⟨⟨p, hp, h1⟩, h2, h3⟩ := h
  exact ⟨⟨p, hp, (hf.block b hl hb).trans h1⟩, hf.own h2 hv, h3⟩
theorem Bld.is {b B B' : Nat} {v : Value} {bs : List Value} {W : World} (h : Bld b B v bs W) (hb : B' ≤ b) (hB : B' ≤ B) : Lib.IsBuilder 98 5 B' b bs W := by
  obtain ⟨⟨p, hp, h1⟩, h2, h3⟩ := h
  have h4 : W.ownsRow B' 5 1 v bs.length bs := ⟨h2.1, by
    rcases h2.2 with h | ⟨g, cap, cur, h5, h6, h7⟩
    · exact .inl h
    · exact .inr ⟨g, cap, cur, h5, Nat.le_trans hB h6, h7⟩⟩
  rcases hp with rfl | rfl
  · exact .inl ⟨hb, v, h1, h4, h3⟩
  · exact .inr ⟨hb, v, h1, h4, h3⟩
theorem chk_bld (b B : Nat) (v : Value) (bs : List Value) (W : World) (h : Bld b B v bs W) :
    Calls Try.prog 85 #[.pointer (some ⟨b, 0, none⟩)] W fun e W' => e = .returned (.tuple #[]) ∧ W'.heap[b]? = some (.cells #[.pointer (some ⟨b, 0, none⟩), v] 98 (0, 0)) ∧ Frm (fun k => k = b) W W' := by
  obtain ⟨⟨p, hp, h1⟩, _, _⟩ := h
  rcases hp with rfl | rfl
  · refine (chk_fresh b W (by rw [Lib.cell_of_heap h1]; rfl) (by simp [World.shape?, h1]) (Lib.frozen_of_heap h1 0)).mono ?_
    rintro e W' ⟨rfl, rfl⟩
    exact ⟨rfl, heap_setCell_same _ b 0 _ _ _ h1, Frm.set _ rfl⟩
  · refine (chk_used b W (by rw [Lib.cell_of_heap h1]; rfl)).mono ?_
    rintro e W' ⟨rfl, rfl⟩
    exact ⟨rfl, h1, Frm.refl _ _⟩
set_option maxHeartbeats 2000000 in
set_option maxRecDepth 100000 in
theorem write_bld (b B : Nat) (v : Value) (bs : List Value) (s : ByteArray) (W : World) (h : Bld b B v bs W) (hlen : bs.length + s.size ≤ 140737488355328) (hBw : B ≤ W.heap.size) :
    Calls Try.prog 62 #[.pointer (some ⟨b, 0, none⟩), .string s] W fun e W' => e = .returned (.tuple #[.int .i64 s.size, .nilIface]) ∧ ∃ v', Bld b B v' (bs ++ Lib.strCells s) W' ∧ Frm (fun k => k = b ∨ v.ownBlock = some k) W W' := by
  obtain ⟨i0, hi, hz0, hz1, hz2⟩ := info_parts infoU8
  have KC := Lib.hid (chk_bld b B v bs W h)
  have H := Lib.hid h
  clear h
  go_enter Try.func62, Try.ntmps62
  go_wp2_with (go_at_call 85; refine KC.out.mono ?_)
  rintro e w1 ⟨rfl, hbk, hf1⟩
  obtain ⟨_, hown0, hne⟩ := H.out
  have hown : w1.ownsRow B 5 1 v bs.length bs := hf1.own hown0 (fun k e1 e2 => hne (e2 ▸ e1))
  have c0 : w1.cell? ⟨b, 0, none⟩ = some (.pointer (some ⟨b, 0, none⟩)) := by rw [Lib.cell_of_heap hbk]; rfl
  have c1 : w1.cell? ⟨b, 1, none⟩ = some v := by rw [Lib.cell_of_heap hbk]; rfl
  have hs1 := hf1.size
  have hlt : b < w1.heap.size := (Array.getElem?_eq_some_iff.1 hbk).1
  go_wp2_with (at_builtin; refine Lib.wpList_append_own_string _ rfl _ _ 96 9 rfl B 5 i0 Try.underlying96 Try.underlying9 hi hz0 hz1 hz2 _ _ _ rfl hown s rfl ?c3 ?c4 ?c5 ?_)
  case c3 => unfold maxLen; omega
  case c4 => omega
  case c5 => omega
  intro v' w2 hown' hgrow _
  have hb2 : w2.heap[b]? = some (.cells #[.pointer (some ⟨b, 0, none⟩), v] 98 (0, 0)) := by
    rw [hgrow.block b hlt (fun e => hne e.symm)]
    exact hbk
  have d0 : w2.cell? ⟨b, 0, none⟩ = some (.pointer (some ⟨b, 0, none⟩)) := by rw [Lib.cell_of_heap hb2]; rfl
  have d1 : w2.cell? ⟨b, 1, none⟩ = some v := by rw [Lib.cell_of_heap hb2]; rfl
  have f1 : w2.frozen? ⟨b, 1, none⟩ = false := Lib.frozen_of_heap hb2 1
  have hv'b : v'.ownBlock ≠ some b := row_neD hown' hb2 (by decide)
  obtain ⟨ao, n', cap, rfl⟩ : ∃ ao n' cap, v' = .slice ao n' cap := by
    rcases hown'.2 with ⟨hv, _⟩ | ⟨g, cap, cur, hv, _⟩
    · exact ⟨_, _, _, hv⟩
    · exact ⟨_, _, _, hv⟩
  go_wp2
  go_ret2
  have hF : Frm (fun k => k = b) w2 (w2.setCell ⟨b, 1, none⟩ (.slice ao n' cap)) := Frm.set _ rfl
  refine ⟨rfl, .slice ao n' cap, ⟨⟨_, .inr rfl, heap_setCell_same _ b 1 _ _ _ hb2⟩, ?_, hv'b⟩, ?_⟩
  · have := hF.own hown' (fun k e1 e2 => hv'b (e2 ▸ e1))
    simpa [Lib.strCells_length] using this
  · exact ((hf1.mono (fun k e => .inl e)).trans (Frm.grown hgrow (fun k e => .inr e))).trans (hF.mono (fun k e => .inl e))
end Go.Proofs.Ytodlcfhkiilpgaa
namespace Go.Proofs.Ytodlcfhkiilpgaa
open Go.RowKit Go.Shelf

theorem frm_freeze (W : World) (p : Addr) (n : Nat) : Frm (fun k => k = p.block) W (W.freeze p n) := by
  unfold World.freeze
  split
  · exact Frm.refl _ _
  · refine ⟨rfl, rfl, rfl, by simp, fun k hk hn => ?_⟩
    simp only [Array.getElem?_modify]
    rw [if_neg (fun e => hn e.symm)]
set_option maxHeartbeats 2000000 in
set_option maxRecDepth 100000 in
theorem str_bld (b B : Nat) (v : Value) (l : List UInt8) (W : World) (h : Bld b B v (Lib.byteCells l) W) :
    Calls Try.prog 63 #[.pointer (some ⟨b, 0, none⟩)] W fun e W' => e = .returned (.string ⟨l.toArray⟩) ∧ Frm (fun k => v.ownBlock = some k) W W' := by
  have hlt := h.lt
  obtain ⟨⟨p, _, hbk⟩, hown, hne⟩ := h
  by_cases h0 : l = []
  · subst h0
    have key : Calls Try.prog 63 #[.pointer (some ⟨b, 0, none⟩)] W fun e w' => e = .returned (.string ⟨#[]⟩) ∧ Below W.heap.size W w' := by
      rcases hown.2 with ⟨rfl, _⟩ | ⟨g, cap, cur, rfl, hbg, hg, _⟩
      · exact Any.Builder_String_nil Try.kstring kext W.heap.size b p W hbk
      · by_cases hc0 : cap = 0
        · subst hc0
          exact Any.Builder_String_noroom Try.kstring kext W.heap.size b g p cur W (Nat.le_refl _) hbk hg
        · exact Any.Builder_String_room Try.kstring kext W.heap.size b g cap p W hc0 hbk
    refine key.mono ?_
    rintro e W' ⟨rfl, hb⟩
    exact ⟨rfl, Frm.below hb⟩
  · have hl0 : l.length ≠ 0 := by simpa using h0
    rw [Lib.byteCells_length] at hown
    obtain ⟨g, cap, cur, rfl, hg, hnc, hcm, hcs⟩ : ∃ g cap cur, v = .slice (some ⟨g, 0, none⟩) l.length cap ∧ W.heap[g]? = some (.cells cur 5 (0, 0)) ∧ l.length ≤ cap ∧ cap ≤ maxLen ∧ cur.size = cap * 1 := by
      rcases hown.2 with ⟨_, hz⟩ | ⟨g, cap, cur, hv, _, r1, r2, r3, r4, _⟩
      · exact absurd hz hl0
      · exact ⟨g, cap, cur, hv, r1, r2, r3, r4⟩
    have c1 : W.drew.cell? ⟨b, 1, none⟩ = some (.slice (some ⟨g, 0, none⟩) l.length cap) := by
      have : W.drew.heap[b]? = some (.cells #[p, .slice (some ⟨g, 0, none⟩) l.length cap] 98 (0, 0)) := hbk
      rw [Lib.cell_of_heap this]; rfl
    have hSD : (Builtin.unsafeSliceData_ #[96] 128 #[.slice (some ⟨g, 0, none⟩) l.length cap]).run Try.prog W.drew = .ok (.pointer (some ⟨g, 0, none⟩)) W.drew :=
      Lib.run_unsafeSliceData_row _ _ _ _ _ _ (by omega)
    have hUS : (Builtin.unsafeString_ #[128, 3] 9 #[.pointer (some ⟨g, 0, none⟩), .int .i64 l.length]).run Try.prog W.drew = .ok (.string ⟨l.toArray⟩) (W.drew.freeze ⟨g, 0, none⟩ l.length) := by
      refine Lib.run_unsafeString_row W.drew 128 3 9 5 Try.underlying128 (by kernel_rfl) g cur.size (by have hg' : W.drew.heap[g]? = some (.cells cur 5 (0, 0)) := hg; simp [World.shape?, hg']) l h0 (by omega) (by unfold maxLen at hcm; omega) ?_
      intro j x hx
      have := hown.cells (g := g) rfl j (.int .u8 x.toNat) (by simp [Lib.byteCells, hx])
      exact this
    have c0 : W.cell? ⟨b, 1, none⟩ = some (.slice (some ⟨g, 0, none⟩) l.length cap) := c1
    go_enter Try.func63, Try.ntmps63
    go_wp2
    go_region
    all_goals
      go_wp2
      go_ret
      refine ⟨rfl, ?_⟩
      exact (Frm.drewN _ W 1).trans ((frm_freeze W.drew ⟨g, 0, none⟩ l.length).mono (fun k e => by rw [e]; rfl))
end Go.Proofs.Ytodlcfhkiilpgaa
namespace Go.Proofs.Ytodlcfhkiilpgaa
open Go.RowKit Go.Shelf Go.Lib
attribute [local go_sem] Oper.semAt_some

/-- a node's text, if it is one -/
def txtN (ns : List Nd) (n : Int) : List UInt8 := if atN ns n Nd.kind 0 == 3 then (atN ns n Nd.data ⟨#[]⟩).data.toList else []
def txts (ns : List Nd) (o : List (Int × Nat)) : List UInt8 := o.flatMap (fun x => txtN ns x.1)
/-- what the law of the range keeps: the boxes, the tree, the builder -/
structure WI (w : World) (D : Nat) (base : Nat) (v : Value) (qk : Bool) (ns : List Nd) (l : List UInt8) (W : World) : Prop where
  bw : Below w.heap.size w W
  bd : W.heap[w.heap.size]? = some (.cells #[.pointer (some ⟨D, 0, none⟩)] 23 (0, 0))
  bd2 : W.heap[w.heap.size + 2]? = some (.cells #[.pointer (some ⟨D, 0, none⟩)] 23 (0, 0))
  doc : DocM base D v qk ns W
  dlt : ∀ k, DB D v ns k → k < w.heap.size
  bld : ∃ vb, Bld (w.heap.size + 1) (w.heap.size + 9) vb (Lib.byteCells l) W
section
variable {w : World} {D base : Nat} {v : Value} {qk : Bool} {ns : List Nd} {l : List UInt8} {W W' : World}
/-- what turns lies beyond, and is not the builder's row -/
theorem WI.keep {S : Nat → Prop} (h : WI w D base v qk ns l W) (hf : Frm S W W') (hS : ∀ k, S k → w.heap.size + 4 ≤ k) (hr : ∀ k vb, Bld (w.heap.size + 1) (w.heap.size + 9) vb (Lib.byteCells l) W → vb.ownBlock = some k → ¬ S k) : WI w D base v qk ns l W' := by
  obtain ⟨vb, hb⟩ := h.bld
  have hs := h.bw.size
  exact ⟨h.bw.trans (hf.toBelow hs (fun k hk => by have := hS k hk; omega)), (hf.block _ (Array.getElem?_eq_some_iff.1 h.bd).1 (fun e => by have := hS _ e; omega)).trans h.bd, (hf.block _ (Array.getElem?_eq_some_iff.1 h.bd2).1 (fun e => by have := hS _ e; omega)).trans h.bd2, h.doc.keep hf (fun k hk e => by have := h.dlt k hk; have := hS k e; omega), h.dlt, vb, hb.keep hf (fun e => by have := hS _ e; omega) (fun k e => hr k vb hb e)⟩
theorem WI.own {f : List (Int × Nat) → List UInt8} {B : Nat} (hB : B = w.heap.size + 4) : OwnFrom B (fun s W => WI w D base v qk ns (f s) W) := by
  rintro s X Y row h hg hr
  refine h.keep (S := fun k => row = some k) (Frm.grown hg (fun k e => e)) (fun k e => by have := (hr k e).1; omega) (fun k vb hb e1 e2 => ?_)
  obtain ⟨_, o, ho, hc⟩ := hr k e2
  rcases hb.2.1.2 with ⟨h1, _⟩ | ⟨g, cap, cur, h1, _, hg2, _⟩
  · rw [h1] at e1; cases e1
  · rw [h1] at e1
    simp [Value.ownBlock] at e1
    subst e1
    rw [hg2] at ho
    cases ho
    cases hc
theorem WI.abides {f : List (Int × Nat) → List UInt8} {B : Nat} (hB : B = w.heap.size + 6) : AbidesE B 3 (fun s W => WI w D base v qk ns (f s) W) := by
  rintro s X Y row h hg hr
  refine h.keep (S := fun k => row = some k) (Frm.grown hg (fun k e => e)) (fun k e => by have := (hr k e).1; omega) (fun k vb hb e1 e2 => ?_)
  have := (hr k e2).2
  have := (hb.2.1.lt k e1).1
  omega
/-- the builder has grown -/
theorem WI.wrote {l' : List UInt8} {vb vb' : Value} (h : WI w D base v qk ns l W) (hb : Bld (w.heap.size + 1) (w.heap.size + 9) vb (Lib.byteCells l) W) (hb' : Bld (w.heap.size + 1) (w.heap.size + 9) vb' (Lib.byteCells l') W') (hf : Frm (fun k => k = w.heap.size + 1 ∨ vb.ownBlock = some k) W W') :
    WI w D base v qk ns l' W' ∧ KeepsOthers W W' ∧ KpW (w.heap.size + 2) base D v qk ns (w.heap.size + 6) W W' := by
  have hs := h.bw.size
  have hr : ∀ k, (k = w.heap.size + 1 ∨ vb.ownBlock = some k) → k = w.heap.size + 1 ∨ w.heap.size + 9 ≤ k := fun k e => by
    rcases e with e | e
    · exact .inl e
    · exact .inr (hb.2.1.lt k e).1
  have hdoc : DocM base D v qk ns W → DocM base D v qk ns W' := fun hd => hd.keep hf (fun k hk e => by have := h.dlt k hk; rcases hr k e with e | e <;> omega)
  have hbd2 : W'.heap[w.heap.size + 2]? = W.heap[w.heap.size + 2]? := hf.block _ (Array.getElem?_eq_some_iff.1 h.bd2).1 (fun e => by rcases hr _ e with e | e <;> omega)
  refine ⟨⟨h.bw.trans (hf.toBelow hs (fun k hk => by rcases hr k hk with e | e <;> omega)), (hf.block _ (Array.getElem?_eq_some_iff.1 h.bd).1 (fun e => by rcases hr _ e with e | e <;> omega)).trans h.bd, hbd2.trans h.bd2, hdoc h.doc, h.dlt, vb', hb'⟩, ⟨hf.size, fun k o hk ho => ?_⟩, hf.size, fun k h1 h2 h3 => hf.block k h3 (fun e => by rcases hr k e with e | e <;> omega), fun hd => ⟨hbd2.trans hd.bd, hdoc hd.doc⟩⟩
  refine (hf.block k (Array.getElem?_eq_some_iff.1 hk).1 (fun e => ?_)).trans hk
  rcases e with e | e
  · obtain ⟨⟨p, _, h1⟩, _⟩ := hb
    rw [e, h1] at hk
    cases hk
    cases ho
  · rcases hb.2.1.2 with ⟨h1, _⟩ | ⟨g, cap, cur, h1, _, hg2, _⟩
    · rw [h1] at e; cases e
    · rw [h1] at e
      simp [Value.ownBlock] at e
      subst e
      rw [hg2] at hk
      cases hk
      cases ho
end
end Go.Proofs.Ytodlcfhkiilpgaa
namespace Go.Proofs.Ytodlcfhkiilpgaa
open Go.RowKit Go.Shelf Go.Lib
attribute [local go_sem] Oper.semAt_some

section
variable {base D : Nat} {v : Value} {qk : Bool} {ns : List Nd}
theorem txts_len {ns : List Nd} (hz : ∀ z ∈ ns, z.data.size ≤ 1000000) : ∀ o : List (Int × Nat), (txts ns o).length ≤ o.length * 1000000
  | [] => by simp [txts]
  | x :: o => by
    have ih := txts_len hz o
    have h1 : (txtN ns x.1).length ≤ 1000000 := by
      unfold txtN
      split
      · cases hq : inN ns x.1 with
        | false => rw [atN_none hq]; simp
        | true =>
          obtain ⟨i, z, e, hi⟩ := inN_at hq
          rw [e, atN_some hi]
          have := hz z (List.mem_of_getElem? hi)
          simpa using this
      · simp
    have h2 : txts ns (x :: o) = txtN ns x.1 ++ txts ns o := rfl
    rw [h2, List.length_append, List.length_cons]
    omega
/-- the blocks of a tree are cells -/
theorem DocM.isCells {W : World} (h : DocM base D v qk ns W) : ∀ k, DB D v ns k → ∃ cur t, W.heap[k]? = some (.cells cur t (0, 0)) := by
  have row : ∀ {b e sz m : Nat} {u : Value} {vs : List Value}, W.ownsRow b e sz u m vs → ∀ k, u.ownBlock = some k → ∃ cur t, W.heap[k]? = some (.cells cur t (0, 0)) := by
    intro b e sz m u vs ho k hk
    rcases ho.2 with ⟨h1, _⟩ | ⟨g, cap, cur, h1, _, hg, _⟩
    · rw [h1] at hk; cases hk
    · rw [h1] at hk
      simp [Value.ownBlock] at hk
      subst hk
      exact ⟨cur, _, hg⟩
  rintro k (rfl | e | ⟨i, x, hx, e | e⟩)
  · exact ⟨_, _, h.hd⟩
  · exact row h.row k e
  · exact row (h.kids i x hx) k e
  · exact row (h.attrs i x hx) k e
set_option maxRecDepth 100000 in
set_option maxHeartbeats 4000000 in
theorem words_any (n : Int) (w : World) (h : DocM base D v qk ns w) (hl : ns.length ≤ 100000) (hz : ∀ z ∈ ns, z.data.size ≤ 1000000) (o : List (Int × Nat)) (lf : Nat) (b : Bool) (hvis : Vis ns ns.length (kdN ns (srcN ns n)) 1 o lf b) :
    Calls Try.prog 27 #[.pointer (some ⟨D, 0, none⟩), .int .i64 n] w fun e w' => e = .returned (.string ⟨(txts ns o).toArray⟩) ∧ Below w.heap.size w w' := by
  refine (callsIn_wide (n := 9)).1 ?_
  refine callsIn_of_wp_marks Try.func27 rfl trivial ?_ rfl
  simp only [Try.ntmps27, List.size_toArray, List.length_cons, List.length_nil, Nat.reduceAdd, Nat.reduceSub, Array.replicate_succ, Array.replicate_zero, List.push_toArray, List.append_toArray, List.nil_append, List.cons_append]
  have KW := Lib.hid (fun W => walk_any D n W)
  have hdlt : ∀ k, DB D v ns k → k < w.heap.size := fun k hk => (h.in_ k hk).2
  have H := Lib.hid h
  have HV := Lib.hid hvis
  have HZ := Lib.hid hz
  have HD := Lib.hid hdlt
  clear h hvis hz hdlt
  refine wpIn_wide.2 ?_
  go_wp2_with fail
  refine (KW.out _).mono ?_
  rintro e w3 ⟨rfl, rfl⟩
  obtain ⟨W4, hW4⟩ : ∃ W4, (((w.alloc (.cells #[.pointer (some ⟨D, 0, none⟩)] 23)).alloc (.cells #[.pointer none, .slice none 0 0] 98)).alloc (.cells #[.pointer (some ⟨D, 0, none⟩)] 23)).alloc (.cells #[.int .i64 n] 3) = W4 := ⟨_, rfl⟩
  have hs4 : W4.heap.size = w.heap.size + 4 := by rw [← hW4]; simp
  have hb4 : Below w.heap.size w W4 := by rw [← hW4]; exact ((((Below.refl _ w).alloc (Nat.le_refl _) _).alloc (by simp) _).alloc (by simp; omega) _).alloc (by simp; omega) _
  have g0 : W4.heap[w.heap.size]? = some (.cells #[.pointer (some ⟨D, 0, none⟩)] 23 (0, 0)) := by
    rw [← hW4, Below.heap_alloc _ _ _ (by first | (simp; done) | (simp; omega)), Below.heap_alloc _ _ _ (by first | (simp; done) | (simp; omega)), Below.heap_alloc _ _ _ (by first | (simp; done) | (simp; omega))]
    exact heap_alloc_new w _
  have g1 : W4.heap[w.heap.size + 1]? = some (.cells #[.pointer none, .slice none 0 0] 98 (0, 0)) := by
    rw [← hW4, Below.heap_alloc _ _ _ (by first | (simp; done) | (simp; omega)), Below.heap_alloc _ _ _ (by first | (simp; done) | (simp; omega))]
    have := heap_alloc_new (w.alloc (.cells #[.pointer (some ⟨D, 0, none⟩)] 23)) (.cells #[.pointer none, .slice none 0 0] 98)
    simpa using this
  have g2 : W4.heap[w.heap.size + 2]? = some (.cells #[.pointer (some ⟨D, 0, none⟩)] 23 (0, 0)) := by
    rw [← hW4, Below.heap_alloc _ _ _ (by first | (simp; done) | (simp; omega))]
    have := heap_alloc_new ((w.alloc (.cells #[.pointer (some ⟨D, 0, none⟩)] 23)).alloc (.cells #[.pointer none, .slice none 0 0] 98)) (.cells #[.pointer (some ⟨D, 0, none⟩)] 23)
    simpa using this
  have g3 : W4.heap[w.heap.size + 3]? = some (.cells #[.int .i64 n] 3 (0, 0)) := by
    rw [← hW4]
    have := heap_alloc_new (((w.alloc (.cells #[.pointer (some ⟨D, 0, none⟩)] 23)).alloc (.cells #[.pointer none, .slice none 0 0] 98)).alloc (.cells #[.pointer (some ⟨D, 0, none⟩)] 23)) (.cells #[.int .i64 n] 3)
    simpa using this
  have hd4 := H.out.below hb4
  have hWI : WI w D base v qk ns [] W4 := ⟨hb4, g0, g2, hd4, HD.out, .slice none 0 0, ⟨_, .inl rfl, g1⟩, World.ownsRow_nil _ _ _ _, by simp [Value.ownBlock]⟩
  have hSrc : SrcD (w.heap.size + 2) base D v qk ns W4 := ⟨g2, hd4⟩
  have hSE := iterW_e 8 (by omega) n o lf b HV.out (by omega) W4 hSrc g3
  have hz2 : ((w.alloc (.cells #[.pointer (some ⟨D, 0, none⟩)] 23)).alloc (.cells #[.pointer none, .slice none 0 0] 98)).heap.size = w.heap.size + 1 + 1 := by simp
  rw [hz2, hW4]
  have HWI := Lib.hid hWI
  have HSE := Lib.hid hSE
  have hEb : W4.heap.size + 2 = w.heap.size + 6 := by omega
  clear hz2 hW4 hb4 g0 g1 g2 g3 hd4 hWI hSrc hSE H HV KW
  go_wp2
  refine (wpIn_wide (n := 9)).1 ?_
  refine range_E rfl (enters_of Try.func48 (by kernel_rfl) rfl) HSE.out
    (fun h1 h2 => ⟨Nat.le_trans h1.1 h2.1, fun k a1 a2 a3 => (h2.2.1 k a1 a2 (Nat.lt_of_lt_of_le a3 h1.1)).trans (h1.2.1 k a1 a2 a3), fun hs => h2.2.2 (h1.2.2 hs)⟩)
    (fun B W l o o' hlB hlo hoc => ⟨by simp, fun k a1 a2 a3 => World.putObj_heap_other (by omega), fun hs => hs.keep (S := fun k => k = l) (Frm.grown (grownBy_putObj' W l o') (fun k e => by cases e; rfl)) (fun e => by
      have := hs.bd
      rw [e, hlo] at this
      cases this
      cases hoc) (fun k hk e => by
      subst e
      obtain ⟨cur, t, h2⟩ := hs.doc.isCells k hk
      rw [hlo] at h2
      cases h2
      cases hoc)⟩)
    (fun _ => rfl)
    (fun pre W => WI w D base v qk ns (txts ns pre) W)
    (fun _ _ _ => False)
    (WI.own hs4) (fun _ => fun _ _ _ _ h _ _ => h) (WI.abides hEb) (fun _ => fun _ _ _ _ h _ _ => h) HWI.out ?a1 ?assign ?body ?done ?stop
  case assign =>
    intro l x W K hK
    gi_wp2
    exact hK
  case body =>
    rintro l pre ⟨k, d⟩ W hI hlt2 hsz
    obtain ⟨vb, hbld⟩ := hI.bld
    have HI := Lib.hid hI
    have HBL := Lib.hid hbld
    have cb : W.cell? ⟨w.heap.size, 0, none⟩ = some (.pointer (some ⟨D, 0, none⟩)) := by rw [cell_of_row _ _ _ _ _ _ hI.bd]; rfl
    have KK := Lib.hid (kind_any k W hI.doc)
    obtain ⟨kz, hkz⟩ : ∃ k', atN ns k Nd.kind 0 = k' := ⟨_, rfl⟩
    rw [hkz] at KK
    by_cases h3 : kz = 3
    · have d3 : (kz == 3) = true := by rw [h3]; rfl
      have hin : inN ns k = true := by
        cases hq : inN ns k with
        | true => rfl
        | false => rw [atN_none hq] at hkz; omega
      obtain ⟨q, z, rfl, hzq⟩ := inN_at hin
      have hql := (List.getElem?_eq_some_iff.1 hzq).1
      obtain ⟨Av, c, hv, _, _, hgv⟩ := hI.doc.sl
      obtain ⟨g, rfl, _, _⟩ := hgv (by omega)
      subst hv
      obtain ⟨c0, _, _⟩ := hI.doc.cells
      have cd : W.cell? ⟨g, q * 10 + 3, none⟩ = some (.string z.data) := hI.doc.cell hzq (by omega)
      have htx : Lib.byteCells (txts ns (pre ++ [((q : Int), d)])) = Lib.byteCells (txts ns pre) ++ Lib.strCells z.data := by
        have e1 : txts ns (pre ++ [((q : Int), d)]) = txts ns pre ++ z.data.data.toList := by
          unfold txts
          rw [List.flatMap_append]
          congr 1
          show txtN ns (q : Int) ++ [] = _
          unfold txtN
          rw [hkz, d3, if_pos rfl, List.append_nil]
          exact congrArg (fun s : ByteArray => s.data.toList) (atN_some hzq)
        rw [e1, Lib.strCells_eq]
        unfold Lib.byteCells
        rw [List.map_append]
      have hln := txts_len HZ.out pre
      have hzs := HZ.out z (List.mem_of_getElem? hzq)
      have KR := Lib.hid (write_bld (w.heap.size + 1) (w.heap.size + 9) vb (Lib.byteCells (txts ns pre)) z.data W hbld (by rw [Lib.byteCells_length]; omega) (by omega))
      rw [← htx] at KR
      clear hI hbld hkz h3 hin hzq hgv htx hln hzs HWI HSE
      gi_wp2_with (first
        | (refine ⟨trivial, ?_⟩; gi_at_call 11; refine (CallsIn.inRound l (callsIn_wide.2 KK.out)).mono ?_; rintro e w2 ⟨rfl, rfl⟩)
        | (refine ⟨trivial, ?_⟩; gi_at_call 62; refine (CallsIn.inRound l (callsIn_wide.2 KR.out)).mono ?_; rintro e W2 ⟨rfl, vb', hb', hf⟩))
      obtain ⟨r1, r2, r3⟩ := HI.out.wrote HBL.out hb' hf
      exact ⟨r2, by rw [hEb]; exact r3, r1⟩
    · have d3 : (kz == 3) = false := by rw [beq_eq_false_iff_ne]; exact h3
      have htx : txts ns (pre ++ [(k, d)]) = txts ns pre := by
        unfold txts
        rw [List.flatMap_append]
        show _ ++ (txtN ns k ++ []) = _
        unfold txtN
        rw [hkz, d3, if_neg (by decide)]
        simp
      have HTX := Lib.hid htx
      clear hI hbld hkz h3 htx HWI HSE
      gi_wp2_with (refine ⟨trivial, ?_⟩; gi_at_call 11; refine (CallsIn.inRound l (callsIn_wide.2 KK.out)).mono ?_; rintro e w2 ⟨rfl, rfl⟩)
      refine ⟨KeepsOthers.refl _, ⟨Nat.le_refl _, fun _ _ _ _ => rfl, fun h => h⟩, ?_⟩
      show WI w D base v qk ns (txts ns (pre ++ [(k, d)])) _
      rw [HTX.out]
      exact HI.out
  case stop =>
    rintro D2 c pre W _ _ h _
    exact h.elim
  case done =>
    rintro D2 xs W hD rfl hI hK
    obtain ⟨vb, hbld⟩ := hI.bld
    have KS := Lib.hid (str_bld (w.heap.size + 1) (w.heap.size + 9) vb (txts ns xs) W hbld)
    have HI := Lib.hid hI
    have HBL := Lib.hid hbld
    have HK := Lib.hid hK
    clear hI hbld hK HWI HSE
    go_wp2_with fail
    refine KS.out.mono ?_
    rintro e W2 ⟨rfl, hf⟩
    have hK2 : W2.heap[D2]? = some (.deferred (some [])) := (hf.block D2 (Array.getElem?_eq_some_iff.1 HK.out).1 (fun e => by
      rcases HBL.out.2.1.2 with ⟨h1, _⟩ | ⟨g, cap, cur, h1, _, hg2, _⟩
      · rw [h1] at e; cases e
      · rw [h1] at e
        simp [Value.ownBlock] at e
        subst e
        have := HK.out
        rw [hg2] at this
        cases this)).trans HK.out
    have hb2 : Below w.heap.size w W2 := HI.out.bw.trans (hf.toBelow HI.out.bw.size (fun k e => by have := (HBL.out.2.1.lt k e).1; omega))
    have HK2 := Lib.hid hK2
    have HB2 := Lib.hid hb2
    clear hK2 hb2 hf
    go_wp2
    refine ⟨by simp, .inl ⟨_, _, rfl, run_takeDeferred HK2.out, ?_⟩⟩
    refine ⟨.string _, ?_, rfl, ?_⟩
    · simp [results, Try.f27, go_sem]
    · exact HB2.out.trans ((Frm.grown (grownBy_putObj' _ D2 _) (fun k e => by cases e; rfl) : Frm (fun k => k = D2) _ _).toBelow HB2.out.size (fun k e => by omega))
end
end Go.Proofs.Ytodlcfhkiilpgaa
namespace Go.Proofs.Ytodlcfhkiilpgaa
open Go.RowKit Go.Shelf Go.Lib

def s8P : ByteArray := ⟨#[112]⟩
def s8A : ByteArray := ⟨#[97]⟩
def s8B : ByteArray := ⟨#[98]⟩
/-- an element by its name -/
def elN (s : ByteArray) : Nd := ⟨2, 0, s, ⟨#[]⟩, none, [], 0, ⟨#[]⟩, ⟨#[]⟩, 0, .slice none 0 0, [], 0⟩
section
variable (A A' : Option Addr) (c c' : Nat) (v1 v2 v3 v4 : Value)
def h8L1 : List Nd := [pageNd, aloneNd (elN s8P) A c]
def h8L2 : List Nd := [{ pageNd with kv := v2, kids := [1] }, { aloneNd (elN s8P) A c with up := 0 }]
def h8L3 : List Nd := [{ pageNd with kv := v2, kids := [1] }, { aloneNd (elN s8P) A c with up := 0, kv := v4, kids := [2] }, { aloneNd (txN s8A) A' c' with up := 1 }]
def h8L4 : List Nd := [{ pageNd with kv := v2, kids := [1] }, { aloneNd (elN s8P) A c with up := 0, kv := v4, kids := [2] }, { aloneNd (txN s8A) A' c' with up := 1, data := s8A ++ s8B }]
theorem h8_put1 : putP (h8L1 A c) 0 1 (-1) v1 v2 = h8L2 A c v2 := by rfl
theorem h8_putE1 : putE (h8L1 A c) 0 1 (-1) = 0 := by rfl
theorem h8_in2 : inN (h8L2 A c v2) 1 = true := by rfl
theorem h8_plc2 : plcB (h8L2 A c v2) 1 (-1) = true := by rfl
theorem h8_say2 : sayN (h8L2 A c v2) 1 (-1) = none := by rfl
theorem h8_put2 : putP (h8L2 A c v2 ++ [aloneNd (txN s8A) A' c']) 1 2 (-1) v3 v4 = h8L3 A A' c c' v2 v4 := by rfl
theorem h8_putE2 : putE (h8L2 A c v2 ++ [aloneNd (txN s8A) A' c']) 1 2 (-1) = 0 := by rfl
theorem h8_in3 : inN (h8L3 A A' c c' v2 v4) 1 = true := by rfl
theorem h8_plc3 : plcB (h8L3 A A' c c' v2 v4) 1 (-1) = true := by rfl
theorem h8_say3 : sayN (h8L3 A A' c c' v2 v4) 1 (-1) = some 2 := by rfl
theorem h8_set3 : setD (h8L3 A A' c c' v2 v4) 2 s8B = h8L4 A A' c c' v2 v4 := by rfl
theorem h8_kd : kdN (h8L4 A A' c c' v2 v4) 1 = [2] := by rfl
theorem h8_src : kdN (h8L4 A A' c c' v2 v4) (srcN (h8L4 A A' c c' v2 v4) 1) = [2] := by rfl
theorem h8_src2 : kdN (h8L4 A A' c c' v2 v4) (srcN (h8L4 A A' c c' v2 v4) 2) = [] := by rfl
theorem h8_in4 : inN (h8L4 A A' c c' v2 v4) 2 = true := by rfl
theorem h8_kind : atN (h8L4 A A' c c' v2 v4) 2 Nd.kind 0 = 3 := by rfl
theorem h8_txts : txts (h8L4 A A' c c' v2 v4) [(2, 1)] = [97, 98] := by rfl
theorem h8_vis : Vis (h8L4 A A' c c' v2 v4) 3 [2] 1 [(2, 1)] 2 true := by
  have h := Vis.go (o := []) (h8_in4 A A' c c' v2 v4) (by rw [h8_src2]; exact Vis.nil (left := 2) (d := 2)) (Vis.nil (left := 2) (d := 1))
  simpa using h
theorem h8_no : s8A.toList ≠ [] ∧ s8B.toList ≠ [] := by constructor <;> (intro h; exact absurd h (by decide +kernel))
end
theorem say_new {ns ns' : List Nd} {up before z : Int} {s : ByteArray} (h : SayR ns up s before ns' z) (h1 : inN ns up = true) (h2 : s.toList ≠ []) (h3 : plcB ns up before = true) (h4 : sayN ns up before = none) :
    ∃ A c v1 v2, ns' = putP (ns ++ [aloneNd (txN s) A c]) up ns.length before v1 v2 ∧ z = putE (ns ++ [aloneNd (txN s) A c]) up ns.length before := by
  cases h with
  | arg h => rcases h with h | h
             · rw [h1] at h; cases h
             · exact absurd h h2
  | miss _ _ h => rw [h3] at h; cases h
  | grow l _ _ _ h => rw [h4] at h; cases h
  | new A c v1 v2 => exact ⟨A, c, v1, v2, rfl, rfl⟩
theorem say_grow {ns ns' : List Nd} {up before z : Int} {s : ByteArray} {l : Nat} (h : SayR ns up s before ns' z) (h1 : inN ns up = true) (h2 : s.toList ≠ []) (h3 : plcB ns up before = true) (h4 : sayN ns up before = some l) :
    ns' = setD ns l s ∧ z = 0 := by
  cases h with
  | arg h => rcases h with h | h
             · rw [h1] at h; cases h
             · exact absurd h h2
  | miss _ _ h => rw [h3] at h; cases h
  | grow l' _ _ _ h => rw [h4] at h; cases h; exact ⟨rfl, rfl⟩
  | new A c v1 v2 _ _ _ h => rw [h4] at h; cases h
end Go.Proofs.Ytodlcfhkiilpgaa
namespace Go.Proofs.Ytodlcfhkiilpgaa
open Go.RowKit Go.Shelf Go.Lib
attribute [local go_sem] Oper.semAt_some

theorem Adds.bw {base D : Nat} {v : Value} {qk : Bool} {ns ns' : List Nd} {W W' : World} (h : Adds base D v qk ns ns' W W') (hd : DocM base D v qk ns W) (hb : base ≤ W.heap.size) : Below base W W' := by
  obtain ⟨_, _, hf, _⟩ := h
  exact hf.toBelow hb (fun k e => (hd.in_ k e).1)
set_option maxRecDepth 100000 in
set_option maxHeartbeats 2000000 in
theorem head8_any (W : World) : Calls Try.prog 10 #[] W fun e W' => e = .returned (.bool true) ∧ Below W.heap.size W W' := by
  have KN := Lib.hid (New_any W)
  go_enter Try.func10, Try.ntmps10
  go_wp2_with fail
  refine KN.out.mono ?_
  rintro e W1 ⟨D, v, rfl, hd, hb1⟩
  have hbs := hb1.size
  have KA := add_plain (elN s8P) hd hbs (by kernel_rfl) (by simp) (.inl rfl) (fun _ => rfl) (by decide)
  have HB1 := Lib.hid hb1
  have HD1 := Lib.hid hd
  replace KA := Lib.hid KA
  clear hd hb1 KN
  go_wp2_with fail
  refine KA.out.mono ?_
  rintro e W2 ⟨rfl, A, c, ha⟩
  have hb2 := HB1.out.trans (ha.bw HD1.out hbs)
  obtain ⟨v2, hd2, _, _⟩ := ha
  replace hd2 : DocM W.heap.size D v2 false (h8L1 A c) W2 := hd2
  have KP := put_any 0 1 (-1) W2 hd2 (by simp [h8L1]) (fun x hx => by
    simp only [h8L1, List.mem_cons, List.not_mem_nil, or_false] at hx
    rcases hx with rfl | rfl <;> exact (by decide : (0 : Nat) < 1000000))
  unfold PutPost at KP
  simp only [h8_put1, h8_putE1] at KP
  replace KP := Lib.hid KP
  have HB2 := Lib.hid hb2
  have HD2 := Lib.hid hd2
  have hbs2 := hb2.size
  clear hd2 hb2 KA HB1 HD1
  go_wp2_with fail
  refine KP.out.mono ?_
  rintro e W3 ⟨va, vb, rfl, ha⟩
  have hb3 := HB2.out.trans (ha.adds.bw HD2.out hbs2)
  obtain ⟨hd3, _, _⟩ := ha
  have KS := say_any 1 s8A (-1) W3 hd3 (by simp [h8L2]) (fun x hx => by
    simp only [h8L2, List.mem_cons, List.not_mem_nil, or_false] at hx
    rcases hx with rfl | rfl <;> first | exact (by decide : (0 : Nat) < 1000000) | exact (by decide : (1 : Nat) < 1000000)) (fun x hx => by
    simp only [h8L2, List.mem_cons, List.not_mem_nil, or_false] at hx
    rcases hx with rfl | rfl <;> (simp only [pageNd, aloneNd, elN, s8A]; decide))
  replace KS := Lib.hid KS
  have HB3 := Lib.hid hb3
  have HD3 := Lib.hid hd3
  have hbs3 := hb3.size
  clear hd3 hb3 KP HB2 HD2
  go_wp2_with fail
  refine KS.out.mono ?_
  rintro e W4 ⟨ns4, z, hr, rfl, ha⟩
  have hb4 := HB3.out.trans (ha.bw HD3.out hbs3)
  obtain ⟨A', c', v3, v4, e1, e2⟩ := say_new hr (h8_in2 _ _ _) h8_no.1 (h8_plc2 _ _ _) (h8_say2 _ _ _)
  replace e1 := e1.trans (h8_put2 A A' c c' vb v3 v4)
  replace e2 := e2.trans (h8_putE2 A A' c c' vb)
  subst e1 e2
  obtain ⟨v5, hd4, _, _⟩ := ha
  have KT := say_any 1 s8B (-1) W4 hd4 (by simp [h8L3]) (fun x hx => by
    simp only [h8L3, List.mem_cons, List.not_mem_nil, or_false] at hx
    rcases hx with rfl | rfl | rfl <;> first | exact (by decide : (0 : Nat) < 1000000) | exact (by decide : (1 : Nat) < 1000000)) (fun x hx => by
    simp only [h8L3, List.mem_cons, List.not_mem_nil, or_false] at hx
    rcases hx with rfl | rfl | rfl <;> (simp only [pageNd, aloneNd, elN, txN, s8A, s8B]; decide))
  replace KT := Lib.hid KT
  have HB4 := Lib.hid hb4
  have HD4 := Lib.hid hd4
  have hbs4 := hb4.size
  clear hd4 hb4 hr KS HB3 HD3
  go_wp2_with fail
  refine KT.out.mono ?_
  rintro e W5 ⟨ns5, z, hr, rfl, ha⟩
  have hb5 := HB4.out.trans (ha.bw HD4.out hbs4)
  obtain ⟨e1, e2⟩ := say_grow hr (h8_in3 _ _ _ _ _ _) h8_no.2 (h8_plc3 _ _ _ _ _ _) (h8_say3 _ _ _ _ _ _)
  replace e1 := e1.trans (h8_set3 A A' c c' vb v4)
  subst e1 e2
  obtain ⟨v6, hd5, _, _⟩ := ha
  have KK := Kids_any 1 W5 hd5 (by rw [h8_kd]; simp)
  rw [h8_kd] at KK
  replace KK := Lib.hid KK
  have HB5 := Lib.hid hb5
  have HD5 := Lib.hid hd5
  have hbs5 := hb5.size
  clear hd5 hb5 hr KT HB4 HD4
  go_wp2_with fail
  refine KK.out.mono ?_
  rintro e W6 ⟨v7, rfl, ho, hb6⟩
  have hd6 := HD5.out.below hb6
  have hb6' := HB5.out.trans (hb6.mono hbs5)
  obtain ⟨g7, c7, e7, hc7⟩ : ∃ g c, v7 = .slice (some ⟨g, 0, none⟩) 1 c ∧ W6.cell? ⟨g, 0, none⟩ = some (.int .i64 2) := by
    rcases ho.2 with ⟨_, h0⟩ | ⟨g, cap, cur, e, _⟩
    · cases h0
    · subst e
      exact ⟨g, cap, rfl, ho.cellAt 0 (by decide)⟩
  subst e7
  have KI := Lib.hid (kind_any 2 W6 hd6)
  rw [h8_kind] at KI
  have KW := words_any 1 W6 hd6 (by simp [h8L4]) (fun x hx => by
    simp only [h8L4, List.mem_cons, List.not_mem_nil, or_false] at hx
    rcases hx with rfl | rfl | rfl <;> (simp only [pageNd, aloneNd, elN, s8A, s8B]; decide)) [(2, 1)] 2 true (by rw [h8_src]; exact h8_vis _ _ _ _ _ _)
  rw [h8_txts] at KW
  replace KW := Lib.hid KW
  have HB6 := Lib.hid hb6'
  have hbs6 := hb6'.size
  clear hb6 hb6' hd6 KK HB5 HD5
  clear ho
  go_wp2_with fail
  refine KI.out.mono ?_
  rintro e w7 ⟨rfl, rfl⟩
  go_wp2_with fail
  refine KW.out.mono ?_
  rintro e W8 ⟨rfl, hb8⟩
  go_wp2
  go_ret
  exact ⟨rfl, HB6.out.trans (hb8.mono hbs6)⟩
end Go.Proofs.Ytodlcfhkiilpgaa
