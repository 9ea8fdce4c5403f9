/- The law CharsNames, walked. -/
import Derived.Test.YtdoglpaggmdnpaaCq
import Derived.Test.YtdoglpaggmdnpaaCy
import Derived.Test.YtdoglpaggmdnpaaTt
import Derived.Test.YtdoglpaggmdnpaaTd
import Derived.Lib.ConvBytes
import Derived.Laws.AppendOwn
import Derived.Laws.Cover1
import Derived.Laws.AppendOwnNone
namespace Go.Proofs.Ytdoglpaggmdnpaa
open Go.RowKit
attribute [local go_sem] Oper.semAt_some

theorem bytes_list (s : ByteArray) : s.toList = s.data.toList := ByteArray.toList_eq s

theorem row_ne_blk {w : World} {base sz n b : Nat} {e t : TypeId} {v : Value} {xs : List Value} {C : Array Value} {m : Nat × Nat} (h : w.ownsRow base e sz v n xs) (hb : w.heap[b]? = some (.cells C t m)) (hne : e ≠ t) : some b ≠ v.ownBlock := by
  intro hx
  rcases h.2 with ⟨h', _⟩ | ⟨g, cap, cur, h', _, hh, _⟩
  · subst h'; cases hx
  · subst h'
    have : b = g := by injection hx
    subst this
    rw [hb] at hh
    injection hh with hh
    injection hh with h1 h2 h3
    exact hne h2.symm
theorem match_self (nm : List UInt8) (sg : Int) (bare : Bool) (more : List Int) (A : Option Addr) (n cap : Nat) (w : World) (hn : n = (Cx.nums nm ++ 59 :: more).length) (hr : Rd w .i32 A (Cx.nums nm ++ 59 :: more)) (hl : n ≤ 1000000) (hb : Cx.best (Cx.nums nm ++ 59 :: more) 61 = ((nm, sg, bare), nm.length + 1, true)) :
    Calls Try.prog 25 #[.slice A n cap] w fun e w' => ∃ b off L, e = .returned (.tuple #[.slice (some ⟨b, off, none⟩) L L, .int .i64 (nm.length + 1 : Nat), .bool true]) ∧ (L = 1 ∨ L = 2 ∧ nm = Cx.nvlt) ∧
      w'.cell? ⟨b, off, none⟩ = some (.int .i32 sg) ∧ Below w.heap.size w w' := by
  subst hn
  refine (match_any _ A cap w hr hl).mono ?_
  rintro e w' ⟨B, rfl, hrd, hb'⟩
  have hf : Cx.found (Cx.nums nm ++ 59 :: more) = Cx.meaning (nm, sg, bare) := by unfold Cx.found; rw [hb, if_neg (by simp)]
  have hm := Cx.meaning_head (nm, sg, bare)
  have hL : (Cx.meaning (nm, sg, bare)).length = 1 ∨ (Cx.meaning (nm, sg, bare)).length = 2 ∧ nm = Cx.nvlt := by
    unfold Cx.meaning
    split
    · rename_i h; exact .inr ⟨rfl, h⟩
    · exact .inl rfl
  rw [hf] at hrd ⊢
  obtain ⟨b, off, rfl, _, hc⟩ := hrd.pos (by omega)
  refine ⟨b, off, _, by rw [hb], hL, ?_, hb'⟩
  have := hc 0 (by omega)
  rw [hm.2.2] at this
  exact this
theorem match_bare (nm : List UInt8) (bare : Bool) (A : Option Addr) (n cap : Nat) (w : World) (hn : n = nm.length) (hr : Rd w .i32 A (Cx.nums nm)) (hl : n ≤ 1000000) (hb : (Cx.best (Cx.nums nm) 61).2.2 = false) (hb2 : ((Cx.best (Cx.nums nm) 61).2.1 == nm.length) = bare) :
    Calls Try.prog 25 #[.slice A n cap] w fun e w' => ∃ v q, e = .returned (.tuple #[v, .int .i64 (q : Nat), .bool false]) ∧ (((q : Int) == (n : Int)) = bare) ∧ q ≤ 11 ∧ Below w.heap.size w w' := by
  have h1 : n = (Cx.nums nm).length := by rw [hn, Cx.nums, List.length_map]
  rw [h1] at hl ⊢
  refine (match_any _ A cap w hr hl).mono ?_
  rintro e w' ⟨B, rfl, hrd, hb'⟩
  refine ⟨_, _, by rw [hb], ?_, Cx.best_le _ 61 (by omega), hb'⟩
  rw [← hb2, ← h1, hn, Bool.eq_iff_iff, beq_iff_eq, beq_iff_eq]
  omega

/-- the blocks of a round: the entry's copy, the bytes of its name; nothing old has turned -/
def W4s (wr : World) (st : ByteArray) (sg : Int) (bare : Bool) (W : World) : Prop :=
  W.heap[wr.heap.size]? = some (.cells #[.string st, .int .i32 sg, .bool bare] 45 (0, 0)) ∧
  (∃ C m, W.heap[wr.heap.size + 2]? = some (.cells C 5 m) ∧ ∀ i, i < st.size → C[i]? = some (.int .u8 (st.data.toList.getD i 0).toNat)) ∧ Below wr.heap.size wr W
theorem heap_alloc_lt (W : World) (o : Obj) {D : Nat} (h : D < W.heap.size) : (W.alloc o).heap[D]? = W.heap[D]? := by
  show (W.heap.push o)[D]? = _
  rw [Array.getElem?_push, if_neg (Nat.ne_of_lt h)]
theorem heap_lt {W : World} {D : Nat} {o : Obj} (h : W.heap[D]? = some o) : D < W.heap.size := by
  rcases Nat.lt_or_ge D W.heap.size with h' | h'
  · exact h'
  · rw [Array.getElem?_eq_none h'] at h; cases h
theorem W4s.size {wr W : World} {st : ByteArray} {sg : Int} {bare : Bool} (h : W4s wr st sg bare W) : wr.heap.size + 3 ≤ W.heap.size := by
  obtain ⟨_, ⟨C, m, hC, _⟩, _⟩ := h
  have := heap_lt hC
  omega
theorem W4s.alloc {wr W : World} {st : ByteArray} {sg : Int} {bare : Bool} (h : W4s wr st sg bare W) (o : Obj) : W4s wr st sg bare (W.alloc o) := by
  have hs := h.size
  obtain ⟨h1, ⟨C, m, hC, hi⟩, hb⟩ := h
  exact ⟨by rw [heap_alloc_lt _ _ (by omega)]; exact h1, ⟨C, m, by rw [heap_alloc_lt _ _ (by omega)]; exact hC, hi⟩, hb.alloc (by omega) _⟩
theorem W4s.grown {wr W W' : World} {st : ByteArray} {sg : Int} {bare : Bool} (h : W4s wr st sg bare W) {v : Value} {n : Nat} {xs : List Value} (ho : W.ownsRow (wr.heap.size + 1) 21 1 v n xs) (hg : W.grownBy W' v.ownBlock) : W4s wr st sg bare W' := by
  have hs := h.size
  obtain ⟨h1, ⟨C, m, hC, hi⟩, hb⟩ := h
  refine ⟨?_, ⟨C, m, ?_, hi⟩, hb.grown hg (by omega) (fun k e => by have := (ho.lt k e).1; omega)⟩
  · rw [hg.block _ (by omega) (fun e => by have := (ho.lt _ e.symm).1; omega)]; exact h1
  · rw [hg.block _ (by omega) (row_ne_blk ho hC (by decide))]; exact hC
theorem W4s.below {wr W W' : World} {st : ByteArray} {sg : Int} {bare : Bool} (h : W4s wr st sg bare W) (hb : Below W.heap.size W W') : W4s wr st sg bare W' := by
  have hs := h.size
  obtain ⟨h1, ⟨C, m, hC, hi⟩, hB⟩ := h
  exact ⟨(hb.block _ (by omega)).trans h1, ⟨C, m, (hb.block _ (by omega)).trans hC, hi⟩, hB.trans (hb.mono (by omega))⟩
theorem W4s.cells {wr W : World} {st : ByteArray} {sg : Int} {bare : Bool} (h : W4s wr st sg bare W) : W.cell? ⟨wr.heap.size, 0, none⟩ = some (.string st) ∧ W.cell? ⟨wr.heap.size, 1, none⟩ = some (.int .i32 sg) ∧ W.cell? ⟨wr.heap.size, 2, none⟩ = some (.bool bare) := by
  obtain ⟨h1, _, _⟩ := h
  refine ⟨?_, ?_, ?_⟩ <;> simp [World.cell?, h1]
theorem Rd.keep' {w w' : World} {k : IntKind} {A : Option Addr} {xs : List Int} (h : Rd w k A xs) (hb : Below w.heap.size w w') : Rd w' k A xs := h.below hb
theorem Rd.pre {w : World} {k : IntKind} {A : Option Addr} {xs ys : List Int} (h : Rd w k A (xs ++ ys)) : Rd w k A xs := by
  rcases h with h | ⟨b, off, hA, hb, hc⟩
  · left
    rw [List.append_eq_nil_iff] at h
    exact h.1
  · right
    refine ⟨b, off, hA, hb, fun i hi => ?_⟩
    rw [hc i (by rw [List.length_append]; omega), List.getElem?_append_left hi]
theorem names_w4 (wr : World) (n : Nat) (st : ByteArray) (sg : Int) (bare : Bool) :
    ∃ W4, Lib.bytesWorld (((wr.alloc (Obj.cells #[Value.string st, Value.int IntKind.i32 sg, Value.bool bare] 45)).drewN n).alloc (Obj.cells #[] 21)) 5 st = W4 ∧
      W4s wr st sg bare W4 ∧ W4.ownsRow (wr.heap.size + 1) 21 1 (.slice (some ⟨wr.heap.size + 1, 0, none⟩) 0 0) 0 [] := by
  refine ⟨_, rfl, ?_⟩
  obtain ⟨wa, hwa⟩ : ∃ wa, (wr.alloc (Obj.cells #[Value.string st, Value.int IntKind.i32 sg, Value.bool bare] 45)).drewN n = wa := ⟨_, rfl⟩
  have hsa : wa.heap.size = wr.heap.size + 1 := by rw [← hwa]; simp
  have ha0 : wa.heap[wr.heap.size]? = some (.cells #[.string st, .int .i32 sg, .bool bare] 45 (0, 0)) := by rw [← hwa]; exact heap_alloc_last _ _
  have hba : Below wr.heap.size wr wa := by rw [← hwa]; exact below_drewN ((Below.refl _ _).alloc (Nat.le_refl _) _) _
  rw [hwa]
  have hsb : (wa.alloc (Obj.cells #[] 21)).heap.size = wr.heap.size + 2 := by simp [hsa]
  have hbb : Below (wa.alloc (Obj.cells #[] 21)).heap.size (wa.alloc (Obj.cells #[] 21)) (Lib.bytesWorld (wa.alloc (Obj.cells #[] 21)) 5 st) :=
    ⟨rfl, rfl, rfl, by rw [Lib.bytesWorld_size]; omega, fun k hk => Lib.bytesWorld_at_old _ _ _ k hk⟩
  refine ⟨⟨?_, ⟨Lib.bytesCells (wa.alloc (Obj.cells #[] 21)) 5 st, ((Lib.bytesCells (wa.alloc (Obj.cells #[] 21)) 5 st).size, (Lib.bytesCells (wa.alloc (Obj.cells #[] 21)) 5 st).size + 1), ?_, ?_⟩, ?_⟩, ?_⟩
  · rw [Lib.bytesWorld_at_old _ _ _ _ (by omega), heap_alloc_lt _ _ (by omega)]; exact ha0
  · have := Lib.bytesWorld_at_new (wa.alloc (Obj.cells #[] 21)) 5 st
    rw [hsb] at this
    exact this
  · intro i hi
    simp [Lib.bytesCells, Array.getElem?_append, List.getD, hi]
  · exact (hba.alloc (by omega) _).trans (hbb.mono (by omega))
  · have := World.ownsRow_lit (e := 21) (size := 1) wa #[] 0 (Nat.le_refl _) (by decide) rfl
    rw [hsa] at this
    exact this.kept (row := none) ⟨hbb.os, hbb.tape, hbb.output, hbb.size, fun k hk _ => hbb.block k hk⟩ (by simp [Value.ownBlock])

theorem rd_cat {w : World} {k : IntKind} {base : Nat} {e : TypeId} {v : Value} {n : Nat} {xs ys : List Int} (h : w.ownsRow base e 1 v n (xs.map (Value.int k) ++ ys.map (Value.int k))) : ∃ A cap, v = .slice A n cap ∧ (A = none → cap = 0) ∧ Rd w k A (xs ++ ys) ∧ n ≤ cap := by
  rw [← List.map_append] at h
  obtain ⟨A, cap, h1, h2, h3, h4, h5⟩ := Rd.own h
  rw [h2] at h1
  exact ⟨A, cap, h1, h4, h5, h3⟩
theorem wpList_append_rd {P : Program} {w : World} {ops : Array Oper} {rest : List Oper} {o : Oper} {a : Act} {Q : Exit → Act → World → Prop} {s x : Operand} (hgd : o.guard = none) (t : TypeId)
    (ho : o.op = .call { callee := .builtin .append, args := #[s, x], argTypes := #[t, t] })
    (base : Nat) (e : TypeId) (i : TypeInfo) (z : Value) (bytes : Nat) (ht : P.underlying t = some (.slice e)) (hi : P.info? e = some i) (hz : i.zero = some z) (hsize : i.size = 1) (hby : i.bytes = bytes)
    (v : Value) (n : Nat) (xs : List Value) (hs : a.eval s = v) (hown : w.ownsRow base e 1 v n xs)
    (A : Option Addr) (m c : Nat) (hx : a.eval x = .slice A m c) (news : List Int) (k : IntKind) (hm : news.length = m) (hrd : Rd w k A news) (hnone : A = none → c = 0) (hzs : z.cells.size = 1)
    (h63 : n + m ≤ maxLen) (hbytes : (n + m) * bytes ≤ 140737488355328) (hbase : base ≤ w.heap.size)
    (h : ∀ v' w', w'.ownsRow base e 1 v' (n + m) (xs ++ news.map (Value.int k)) → w.grownBy w' v.ownBlock → wpList P ops Q rest (a.put o.dst v') w') : wpList P ops Q (o :: rest) a w := by
  cases A with
  | none =>
    have hn : news = [] := by
      rcases hrd with h | ⟨b, off, h, _⟩
      · exact h
      · cases h
    subst hn
    obtain rfl : m = 0 := by simpa using hm.symm
    obtain rfl : c = 0 := hnone rfl
    exact wpList_append_own_none hgd s x t ho base e i 1 ht hi v n xs hs hown hx (h v w (by simpa using hown) ⟨rfl, rfl, rfl, Nat.le_refl _, fun _ _ _ => rfl⟩)
  | some ad =>
    refine wpList_append_own w hgd s x t ho base e i z 1 bytes ht hi hz hsize hby hzs (by decide) v n xs hs hown ad m c (news.map (Value.int k)) hx (by simp [hm]) ?_ (by intro u hu; simp at hu; obtain ⟨y, _, rfl⟩ := hu; rfl) h63 hbytes hbase (fun v' w' h1 h2 _ => h v' w' h1 h2)
    intro j u hj
    rcases hrd with h0 | ⟨b, off, hA, _, hc⟩
    · subst h0; simp at hj
    · injection hA with hA
      subst hA
      have hjl : j < news.length := by
        rcases Nat.lt_or_ge j news.length with h' | h'
        · exact h'
        · rw [List.getElem?_eq_none (by simpa using h')] at hj; cases hj
      rw [List.getElem?_map, List.getElem?_eq_getElem hjl] at hj
      have h2 := hc j hjl
      rw [List.getElem?_eq_getElem hjl, Option.getD_some] at h2
      simp only [Option.map_some, Option.some.injEq] at hj
      rw [← hj, ← h2]
      rcases Nat.eq_zero_or_pos j with rfl | hj0
      · simp [Addr.add]
      · simp [Addr.add, Nat.ne_of_gt hj0]

set_option maxHeartbeats 400000 in
theorem names_long (more : List Int) (A : Option Addr) (cap : Nat) (w : World) (hl : 20 < more.length) :
    Calls Try.prog 8 #[.slice A more.length cap] w fun e w' => e = .returned (.bool true) ∧ Below w.heap.size w w' := by
  go_enter Try.func8, Try.ntmps8
  go_wp2_with (go_at_call 23; refine (head2_any _).mono ?_; rintro e w1 ⟨rfl, hb1⟩)
  go_ret
  exact ⟨rfl, hb1⟩

set_option maxRecDepth 100000 in
set_option maxHeartbeats 600000 in
theorem names_short (more : List Int) (A : Option Addr) (cap : Nat) (w : World) (hr : Rd w .i32 A more) (hnone : A = none → cap = 0) (hl : more.length ≤ 20) :
    Calls Try.prog 8 #[.slice A more.length cap] w fun e w' => e = .returned (.bool true) ∧ Below w.heap.size w w' := by
  have hd20 : decide (20 < (more.length : Int)) = false := by simp; omega
  go_enter Try.func8, Try.ntmps8
  go_wp2_with (first | (go_at_call 23; refine (head2_any _).mono ?_; rintro e w1 ⟨rfl, hb1⟩) | (go_at_call 24; refine (names_any _).mono ?_; rintro e w2 ⟨B, rfl, hE, hb2⟩; obtain ⟨z0, z1, z2⟩ := Cx.ents_cell 0 (by omega) [65, 77, 80] 38 true rfl; have c00 := (hE.cell 0).trans z0))
  have hB2 : Below w.heap.size w w2 := hb1.trans (hb2.mono hb1.size)
  have hr2 := hr.below hB2
  clear hr hb1 hb2 z0 z1 z2 c00
  go_loopw [30] (fun i wr => ∃ k : Nat, k ≤ 61 ∧ i = .int .i64 k ∧ Below w2.heap.size w2 wr)
    (fun i _ => 61 - (intOf i).toNat)
  case atStart => exact ⟨0, by omega, rfl, Below.refl _ _⟩
  case round =>
    obtain ⟨k, hk, rfl, hB⟩ := hrel
    obtain ⟨W3, rfl⟩ : ∃ W3, W3 = wr := ⟨_, rfl⟩
    have hr1 := hr2.below hB
    have hE1 := hE.below hB
    by_cases hlt : k < 61
    · obtain ⟨nm, sg, bare, he⟩ : ∃ nm sg bare, Cx.tab[k]?.getD ([], 0, false) = (nm, sg, bare) := ⟨_, _, _, rfl⟩
      obtain ⟨e0, e1, e2⟩ := Cx.ents_cell k hlt nm sg bare he
      have c0 := (hE1.cell (k * 3)).trans e0
      have c1 := (hE1.cell (k * 3 + 1)).trans e1
      have c2 := (hE1.cell (k * 3 + 2)).trans e2
      have hBl := hE1.lt
      have hnm := Cx.tab_len' k hlt nm sg bare he
      have hself := Cx.self_at k hlt nm sg bare he more
      obtain ⟨st, hst⟩ : ∃ st : ByteArray, (⟨nm.toArray⟩ : ByteArray) = st := ⟨_, rfl⟩
      rw [hst] at c0
      have hnl : st.data.toList = nm := by rw [← hst]
      have hsz : st.size = nm.length := by rw [← hst]; simp [ByteArray.size]
      have hs0 : 0 < st.size := by omega
      have hs1 : st.size ≤ 10 := by omega
      have HE := Lib.hid he
      have HSF := Lib.hid hself
      have HNL := Lib.hid hnl
      have kv := fun (w : World) => Lib.run_convert_string_bytes (P := Try.prog) w 9 22 5 st Try.underlying9 Try.underlying22 Try.underlying5
      clear he e0 e1 e2 hr2 hst hnl hsz hnm hself
      obtain ⟨i0, hi, hz0, hz1, hz2⟩ := info_parts infoI32
      have hd61 : decide ((k : Int) < 61) = true := by simp; omega
      rcases Nat.eq_zero_or_pos k with hk0 | hk0
      case' inr =>
        obtain ⟨j, hj⟩ : ∃ j : Nat, k = j + 1 := ⟨k - 1, by omega⟩
        obtain ⟨nm', sg', bare', he'⟩ : ∃ nm' sg' bare', Cx.tab[j]?.getD ([], 0, false) = (nm', sg', bare') := ⟨_, _, _, rfl⟩
        obtain ⟨e0, e1, e2⟩ := Cx.ents_cell j (by omega) nm' sg' bare' he'
        have p0 := (hE1.cell (j * 3)).trans e0
        have hkj : (k : Int) - 1 = j := by omega
        have hwj : IntKind.i64.wrap (j : Int) = j := by rw [IntKind.wrap_i64]; omega
        have hj61 : (j : Int) < 61 := by omega
        have hdk : decide (0 < k) = true := by simp; omega
        obtain ⟨pst, hpst⟩ : ∃ pst : ByteArray, (⟨nm'.toArray⟩ : ByteArray) = pst := ⟨_, rfl⟩
        rw [hpst] at p0
        have hls : Op.bytesLess pst.toList st.toList = true := by
          rw [bytes_list, bytes_list, ← hpst, HNL.out]
          exact Cx.asc_at j (by omega) he' (by rw [← hj]; exact HE.out)
        clear hE1 e0 e1 e2 he' hpst hj hk0
        go_wp2
        go_quiet (fail)
        go_wp2
        clear p0 hkj hwj hj61 hdk hls
      case' inl =>
        have hdk : decide (0 < k) = false := by simp; omega
        clear hE1 hk0
        go_wp2
        go_quiet (fail)
        go_wp2
        clear hdk
      all_goals
        clear c0 c1 c2 kv
        obtain ⟨W4, f4, hE4, hrow4⟩ := names_w4 W3 nq st sg bare
        rw [f4]
        clear f4
        go_loopw [6, 53] (fun v i wq => ∃ m : Nat, m ≤ st.size ∧ i = .int .i64 m ∧ wq.ownsRow (W3.heap.size + 1) 21 1 v m (((Cx.nums nm).take m).map (Value.int .i32)) ∧ W4s W3 st sg bare wq)
          (fun _ i _ => st.size - (intOf i).toNat)
        case atStart => exact ⟨0, by omega, rfl, hrow4, hE4⟩
        case round =>
          obtain ⟨m, hm, rfl, hrow, hW4⟩ := hrel
          have hsz : st.size = nm.length := by rw [← HNL.out]; simp
          clear hrow4 hE4
          by_cases hms : m < st.size
          · obtain ⟨c, hc⟩ : ∃ c, st.data.toList.getD m 0 = c := ⟨_, rfl⟩
            have hcell : wr.cell? ⟨W3.heap.size + 2, m, none⟩ = some (.int .u8 c.toNat) := by
              obtain ⟨_, ⟨C, mk, hC, hCi⟩, _⟩ := hW4
              have hh := hCi m hms
              rw [hc] at hh
              simp only [World.cell?, hC]
              exact hh
            have hwr := wrap32_u8 c
            have hsn : (Cx.nums nm).take (m + 1) = (Cx.nums nm).take m ++ [(c.toNat : Int)] := by
              have hl : m < (Cx.nums nm).length := by rw [Cx.nums, List.length_map]; omega
              rw [List.take_succ_eq_append_getElem hl]
              congr 2
              rw [HNL.out] at hc
              rw [List.getD_eq_getElem?_getD, List.getElem?_eq_getElem (by omega)] at hc
              simp [Cx.nums, ← hc]
            have HSN := Lib.hid hsn
            have hsz5 := hW4.size
            clear hsn hsz hc
            go_wp2_with (at_builtin; refine wpList_append_own _ rfl _ _ 24 rfl (W3.heap.size + 1) 21 i0 (.int .i32 0) 1 4 Try.underlying24 hi hz0 hz1 hz2 rfl (by decide) _ _ _ rfl (hrow.alloc _) ⟨wr.heap.size, 0, none⟩ 1 1 [.int .i32 c.toNat] rfl rfl (cell_one_new _ _ _) (by simp [Value.oneCell']) (by unfold maxLen; omega) (by omega) (by simp; omega) ?_; intro v1' w5 hown1 hgrow1 hnn; clear hnn)
            go_roundw
            case rel => exact ⟨m + 1, by omega, by go_num, by rw [HSN.out, List.map_append]; exact hown1, (hW4.alloc _).grown (hrow.alloc _) hgrow1⟩
            case measure => simp [intOf]; omega
          · obtain rfl : m = st.size := by omega
            rw [hsz, List.take_of_length_le (by rw [Cx.nums, List.length_map]; omega)] at hrow
            have hsz5 := hW4.size
            have hb4 := hW4.2.2
            have hr4 := hr1.below hb4
            have hnl10 : nm.length ≤ 10 := by omega
            go_wp2_with (first
              | (at_builtin; refine wpList_append_own _ rfl _ _ 24 rfl (W3.heap.size + 1) 21 i0 (.int .i32 0) 1 4 Try.underlying24 hi hz0 hz1 hz2 rfl (by decide) u6 _ _ rfl (hrow.alloc _) ⟨wr.heap.size, 0, none⟩ 1 1 [.int .i32 59] rfl rfl (cell_one_new _ _ _) (by simp [Value.oneCell']) (by unfold maxLen; omega) (by omega) (by simp; omega) ?_; intro v5 w5 hown5 hg5 hnn; clear hnn; have hW5 := (hW4.alloc _).grown (hrow.alloc _) hg5; obtain ⟨A5, c5, rfl, hnone5, hrd5, hle5⟩ := rd_cat (ys := [59]) hown5; have hrd5' := hrd5; obtain ⟨b5, o5, rfl, hb5, _⟩ := hrd5'.pos (by simp); clear hrd5' hown5 hg5)
              | (at_builtin; refine wpList_append_rd rfl 24 rfl w5.heap.size 21 i0 (.int .i32 0) 4 Try.underlying24 hi hz0 hz1 hz2 (.slice (some ⟨w5.heap.size, 0, none⟩) 0 0) 0 [] rfl (World.ownsRow_lit w5 #[] 0 (Nat.le_refl _) (by decide) rfl) _ (nm.length + 1) c5 rfl (Cx.nums nm ++ [59]) .i32 (by simp [Cx.nums]) (hrd5.below ((Below.refl _ _).alloc (Nat.le_refl _) _)) hnone5 rfl (by unfold maxLen; omega) (by omega) (by simp) ?_; intro v6 w6 hown6 hg6; have hb6 : Below w5.heap.size w5 w6 := ((Below.refl _ _).alloc (Nat.le_refl _) _).grown hg6 (by simp) (fun k e => by cases e; exact Nat.le_refl _); clear hg6)
              | (at_builtin; refine wpList_append_rd rfl 24 rfl w5.heap.size 21 i0 (.int .i32 0) 4 Try.underlying24 hi hz0 hz1 hz2 v6 _ _ rfl hown6 A more.length cap rfl more .i32 rfl ((hr1.below hW5.2.2).keep' hb6) hnone rfl (by unfold maxLen; omega) (by omega) hb6.size ?_; intro v7 w7 hown7 hg7; have hb7 := hb6.grown hg7 hb6.size (fun k e => (hown6.lt k e).1); obtain ⟨A7, c7, rfl, hnone7, hrd7, hle7⟩ := rd_cat (xs := Cx.nums nm ++ [59]) (ys := more) hown7; clear hg7 hown7 hown6)
              | fail)
            rw [show Cx.nums nm ++ [59] ++ more = Cx.nums nm ++ 59 :: more by simp] at hrd7
            refine (match_self nm sg bare more A7 _ c7 _ (by simp [Cx.nums]; omega) hrd7 (by omega) HSF.out.1).mono ?_
            rintro e w8 ⟨b8, o8, L8, rfl, hL8, hc8, hb8⟩
            have hb58 : Below w5.heap.size w5 w8 := hb7.trans (hb8.mono hb7.size)
            have hW8 := hW5.below hb58
            have hz8 := hW8.size
            have hrd8 := (hrd5.keep' hb58).pre
            have hb38 := hW8.2.2
            obtain ⟨q0, q1, q2⟩ := hW8.cells
            clear hrd7 hb8 hb7 hb6 hW5 hrd5 hr4 hW4 hrow hb4 hsz5 hW8 hb58
            have HNV := Lib.hid hL8
            have hLL : L8 = 1 ∨ L8 = 2 ∧ (st.toList == [110, 118, 108, 116]) = true := by
              rcases hL8 with h | ⟨h1, h2⟩
              · exact .inl h
              · refine .inr ⟨h1, ?_⟩
                rw [bytes_list, HNL.out, h2]; rfl
            clear hL8
            have tn : (((nm.length + 1 : Nat) : Int) != ((nm.length + 1 : Nat) : Int)) = false := by simp
            have ts : (sg != sg) = false := by simp
            have HQ := Lib.hid (fun n c => match_bare nm bare (some ⟨b5, o5, none⟩) nm.length c (w8.drewN n) rfl (hrd8.below (below_drewN (Below.refl _ _) n)) (by omega) HSF.out.2.1 HSF.out.2.2)
            rcases hLL with rfl | ⟨rfl, hnv⟩
            case' inl =>
              go_wp2_with fail
              go_quiet (fail)
              go_wp2_with (go_at_call 25; refine (HQ.out _ _).mono ?_; rintro e w9 ⟨v9, q9, rfl, hq9, hle9, hb9⟩; have p0 : w9.cell? ⟨W3.heap.size, 2, none⟩ = some (.bool bare) := (hb9.cell (p := ⟨W3.heap.size, 2, none⟩) (show W3.heap.size < w8.heap.size by omega)).trans q2)
            case' inr =>
              go_wp2_with fail
              go_quiet (fail)
              go_wp2_with (go_at_call 25; refine (HQ.out _ _).mono ?_; rintro e w9 ⟨v9, q9, rfl, hq9, hle9, hb9⟩; have p0 : w9.cell? ⟨W3.heap.size, 2, none⟩ = some (.bool bare) := (hb9.cell (p := ⟨W3.heap.size, 2, none⟩) (show W3.heap.size < w8.heap.size by omega)).trans q2)
            all_goals
              first
                | (refine ⟨⟨k + 1, by omega, by go_num, ?_⟩, by simp [intOf]; omega⟩; exact hB.trans (((below_drewN hb38 _).trans (hb9.mono (show W3.heap.size ≤ w8.heap.size by omega))).mono hB.size))
                | (exfalso; have hqq : bare = true ↔ (q9 : Int) = (nm.length : Int) := (by rw [← hq9]; simp); clear HE HSF HNL HQ HNV hr1 hnone hrd8 hc8 hb38 hb9 q0 q1 q2 p0 hB hB2 hE hq9; cases bare <;> simp_all <;> omega)
    · obtain rfl : k = 61 := by omega
      clear hE hr2 hk hlt
      go_wp2
      go_ret
      exact ⟨rfl, hB2.trans (hB.mono hB2.size)⟩

end Go.Proofs.Ytdoglpaggmdnpaa
