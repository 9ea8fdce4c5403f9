/- The law TextEncodes, walked. -/
import Derived.Test.YtdoglpaggmdnpaaTp
import Derived.Test.YtdoglpaggmdnpaaTv
import Derived.Test.YtdoglpaggmdnpaaTh
import Derived.Lib.SlBytesConst
import Derived.Laws.BytesArg
import Derived.Laws.IdiomStrings
namespace Go.Proofs.Ytdoglpaggmdnpaa
open Go.RowKit Go.Shelf
attribute [local go_sem] Oper.semAt_some

theorem str_own {P : Program} {t e u : TypeId} (ht : P.underlying t = some (.slice e)) (he : P.underlying e = some (.int .u8)) (hu : P.underlying u = some .string) {w : World} {base n : Nat} {v : Value} {E : List Int} (h : w.ownsRow base e 1 v n (E.map (Value.int .u8))) :
    (convert t u v).run P w = .ok (.string (strOfNums E)) w := by
  obtain ⟨A, cap, rfl, hl, _, _, hrd⟩ := Rd.own h
  subst hl
  cases A with
  | none =>
    have hE : E = [] := by
      rcases hrd with h | ⟨b, off, h, _⟩
      · exact h
      · cases h
    subst hE
    exact run_convert_bytes_nil w t e ht he 0 cap u hu
  | some ad =>
    rcases hrd with hE | ⟨b, off, hA, _, hc⟩
    · subst hE
      rcases h.2 with ⟨h', _⟩ | ⟨g, cap', cur, h', _⟩
      · cases h'
      · injection h' with h1 h2 h3
        cases h1
        exact run_convert_bytes_arg w t e ht he g 0 0 cap [] rfl (fun i hi => by omega) u hu
    · injection hA with hA
      subst hA
      exact run_convert_bytes_arg w t e ht he b off E.length cap E rfl (fun i hi => by rw [hc i hi]; simp) u hu

/-- between two rounds: the law's boxes; nothing old has turned -/
def EncI (rs : List Int) (A : Option Addr) (cap : Nat) (w : World) (Q N : Nat) (n : Nat) (W : World) : Prop :=
  Boxed W Q 24 (.slice A rs.length cap) ∧ Boxed W (Q + 1) 4 (.bool false) ∧ Boxed W N 3 (.int .i64 (n : Int)) ∧ Below w.heap.size w W
theorem boxed_noncell {W W' : World} {B : Nat} {t : TypeId} {v : Value} {row : Option Nat} (h : Boxed W B t v) (hg : W.grownBy W' row) (hr : ∀ r, row = some r → ∃ o : Obj, W.heap[r]? = some o ∧ o.isCells = false) : Boxed W' B t v :=
  h.kept hg (fun e => by
    obtain ⟨o, ho, hc⟩ := hr B e.symm
    have h' : W.heap[B]? = _ := h
    rw [ho] at h'
    cases h'
    cases hc)
theorem encI_own {β : Type} {rs : List Int} {A : Option Addr} {cap : Nat} {w : World} {Q N B : Nat} (f : β → Nat) (hB : w.heap.size ≤ B) : OwnFrom B (fun s W => EncI rs A cap w Q N (f s) W) := by
  rintro s X Y row ⟨h1, h2, h3, h4⟩ hg hr
  have hr' := fun r e => (hr r e).2
  exact ⟨boxed_noncell h1 hg hr', boxed_noncell h2 hg hr', boxed_noncell h3 hg hr', h4.grown hg h4.size (fun k e => Nat.le_trans hB (hr k e).1)⟩
theorem rng_getD {E : List Int} (h : ∀ x ∈ E, 0 ≤ x ∧ x ≤ 255) (i : Nat) : 0 ≤ E[i]?.getD 0 ∧ E[i]?.getD 0 ≤ 255 := by
  cases hi : E[i]? with
  | none => simp
  | some x => exact h x (List.mem_of_getElem? hi)

theorem pre_nx {α : Type} {pre xs : List α} {x y : α} (h : pre <+: xs) (hy : xs[pre.length]? = some y) : (pre ++ [x] <+: xs) ↔ x = y := by
  obtain ⟨t, rfl⟩ := h
  rw [List.getElem?_append_right (Nat.le_refl _), Nat.sub_self] at hy
  cases t with
  | nil => simp at hy
  | cons z t =>
    simp at hy
    subst hy
    constructor
    · rintro ⟨u, hu⟩
      rw [List.append_assoc, List.append_cancel_left_eq] at hu
      simp at hu
      exact hu.1
    · rintro rfl
      exact ⟨t, by simp⟩
theorem pre_lg {α : Type} {pre xs : List α} {x : α} (h : ¬ pre.length < xs.length) : ¬ pre ++ [x] <+: xs := by
  intro hp
  have := hp.length_le
  simp at this
  omega

theorem box_nq {W : World} {B D : Nat} {t : TypeId} {v : Value} {o : Obj} (h : Boxed W B t v) (hD : W.heap[D]? = some o) (ho : o.isCells = false) : some B ≠ some D := by
  intro e
  obtain rfl : B = D := by injection e
  have h' : W.heap[B]? = _ := h
  rw [hD] at h'
  cases h'
  cases ho
theorem encI_n {rs : List Int} {A : Option Addr} {cap : Nat} {w : World} {Q N m : Nat} {W : World} (h : EncI rs A cap w Q N m W) (hN : Q + 1 < N) (hQ : w.heap.size ≤ Q) (m' : Nat) : EncI rs A cap w Q N m' (W.setCell ⟨N, 0, none⟩ (.int .i64 (m' : Int))) := by
  obtain ⟨h1, h2, h3, h4⟩ := h
  have hg := grown_setCell W N (.int .i64 (m' : Int))
  exact ⟨h1.kept hg (by simp; omega), h2.kept hg (by simp; omega), h3.set _, h4.setCell (p := ⟨N, 0, none⟩) (by simp; omega) _⟩
theorem own_none (v : Value) : v.ownBlock = none ∨ v.ownBlock ≠ none := by cases h : v.ownBlock <;> simp

theorem str_ab : strOfNums [97, 98] = ⟨#[97, 98]⟩ := by decide
theorem heap_alloc_lt (W : World) (o : Obj) {D : Nat} (h : D < W.heap.size) : (W.alloc o).heap[D]? = W.heap[D]? := by
  show (W.heap.push o)[D]? = _
  rw [Array.getElem?_push, if_neg (Nat.ne_of_lt h)]
theorem cell_new1 (W : World) (v : Value) (t : TypeId) (m : Nat × Nat) : (W.alloc (.cells #[v] t m)).cell? ⟨W.heap.size, 0, none⟩ = some v := by
  rw [World.cell?_alloc_mark]; rfl

set_option maxRecDepth 100000 in
set_option maxHeartbeats 1000000 in
theorem encodes_short (rs : List Int) (A : Option Addr) (cap : Nat) (w : World) (hr : Rd w .i32 A rs) (hl : rs.length ≤ 500) (hbd : ∀ i : Nat, -2147483648 ≤ rs[i]?.getD 0 ∧ rs[i]?.getD 0 ≤ 2147483647) :
    Calls Try.prog 5 #[.slice A rs.length cap] w fun e w' => e = .returned (.bool true) ∧ Below w.heap.size w w' := by
  refine (callsIn_wide (n := 9)).1 ?_
  refine callsIn_of_wp_marks Try.func5 rfl trivial ?_ rfl
  simp only [Try.ntmps5, List.size_toArray, List.length_cons, List.length_nil, Nat.reduceAdd, Nat.reduceSub, Array.replicate_succ, Array.replicate_zero, List.push_toArray, List.append_toArray, List.nil_append, List.cons_append]
  obtain ⟨i0, hi, hz0, hz1, hz2⟩ := info_parts infoU8
  have hd0 : decide ((500 : Int) < (rs.length : Int)) = false := by simp; omega
  gi_wp2_with (refine ⟨trivial, ?_⟩; gi_at_call 10; refine (callsIn_wide.2 (head1_any _)).mono ?_; rintro e w1 ⟨rfl, hb1⟩; have q0 := ((Boxed.new w 24 (.slice A rs.length cap)).alloc (.cells #[.bool false] 4)).kept (row := none) ⟨hb1.os, hb1.tape, hb1.output, hb1.size, fun k hk _ => hb1.block k hk⟩ (by simp); have q1 := (Boxed.new (w.alloc (.cells #[.slice A rs.length cap] 24)) 4 (.bool false)).kept (row := none) ⟨hb1.os, hb1.tape, hb1.output, hb1.size, fun k hk _ => hb1.block k hk⟩ (by simp); rw [World.size_alloc] at q1; have cq0 := q0.cell; have hlt0 := q0.lt)
  have hB1 : Below w.heap.size w w1 := (((Below.refl _ _).alloc (Nat.le_refl _) _).alloc (by simp) _).trans (hb1.mono (by simp; omega))
  clear hb1 cq0
  gi_loopw [3, 19] (fun v i wr => ∃ k : Nat, i = .int .i64 k ∧ k ≤ rs.length ∧ wr.ownsRow w1.heap.size 5 1 v (Tx.encode (rs.take k)).length ((Tx.encode (rs.take k)).map (Value.int .u8)) ∧ Below w1.heap.size w1 wr)
    (fun _ i _ => rs.length - (intOf i).toNat)
  case atStart => exact ⟨0, rfl, by omega, World.ownsRow_lit w1 #[] 0 (Nat.le_refl _) (by decide) rfl, (Below.refl _ _).alloc (Nat.le_refl _) _⟩
  case round =>
    obtain ⟨k, rfl, hk, hrow, hB⟩ := hrel
    have hBw : Below w.heap.size w wr := hB1.trans (hB.mono hB1.size)
    by_cases hlt : k < rs.length
    · obtain ⟨bb, off, rfl, hbb, hcs⟩ := hr.pos (by omega)
      have hck := (hBw.cell (p := ⟨bb, off + k, none⟩) hbb).trans (hcs k hlt)
      obtain ⟨r, hrr⟩ : ∃ r, rs[k]?.getD 0 = r := ⟨_, rfl⟩
      have hbk := hbd k
      rw [hrr] at hck hbk
      have hsn : Tx.encode (rs.take (k + 1)) = Tx.encode (rs.take k) ++ Tx.enc1 r := by
        rw [List.take_succ_eq_append_getElem hlt, Tx.encode_snoc]
        congr 1
        rw [List.getElem?_eq_getElem hlt, Option.getD_some] at hrr
        rw [hrr]
      have hln := Tx.encode_len (rs.take k)
      rw [List.length_take] at hln
      have hl1 := Tx.enc1_len r
      have HSN := Lib.hid hsn
      have hbz := hB.size
      clear hsn hcs hrr hr hbd
      gi_wp2_with (first
        | (refine ⟨trivial, ?_⟩; gi_at_call 15; refine (callsIn_wide.2 (bytes_any r hbk.1 hbk.2 _)).mono ?_; rintro e w2 ⟨rfl, rfl⟩)
        | (gi_at_builtin; refine wpListIn_append_own _ rfl _ _ 22 rfl w1.heap.size 5 i0 (.int .u8 0) 1 1 Try.underlying22 hi hz0 hz1 hz2 rfl (by decide) _ _ _ rfl (hrow.alloc _) ⟨wr.heap.size, 0, none⟩ (Tx.enc1 r).length (Tx.enc1 r).length ((Tx.enc1 r).map (Value.int .u8)) rfl (by simp) (cells_new wr _ _) (by intro u hu; simp at hu; obtain ⟨z, _, rfl⟩ := hu; rfl) (by unfold maxLen; omega) (by omega) (by simp; omega) ?_; intro v1' w3 hown1 hgrow1 hnn; clear hnn))
      go_roundw
      case rel => exact ⟨k + 1, by go_num, by omega, by rw [HSN.out, List.length_append, List.map_append]; exact hown1, (hB.alloc hB.size _).grown hgrow1 (by simp; omega) (fun k e => (hrow.lt k e).1)⟩
      case measure => simp [intOf]; omega
    · obtain rfl : k = rs.length := by omega
      rw [List.take_length] at hrow
      have q0' := q0.kept (row := none) ⟨hB.os, hB.tape, hB.output, hB.size, fun k hk _ => hB.block k hk⟩ (by simp)
      have q1' := q1.kept (row := none) ⟨hB.os, hB.tape, hB.output, hB.size, fun k hk _ => hB.block k hk⟩ (by simp)
      have cq0 := q0'.cell
      have HE := Lib.hid (encode_any rs A cap wr (hr.below hBw) (by omega) hbd)
      gi_wp2_with (refine ⟨trivial, ?_⟩; gi_at_call 16; refine (callsIn_wide.2 HE.out).mono ?_; rintro e w4 ⟨v4, rfl, hrow4, hb4⟩; have s1 := str_own (P := Try.prog) Try.underlying22 Try.underlying5 Try.underlying9 hrow4; have s2 := str_own (P := Try.prog) Try.underlying22 Try.underlying5 Try.underlying9 (hrow.kept (row := none) ⟨hb4.os, hb4.tape, hb4.output, hb4.size, fun k hk _ => hb4.block k hk⟩ (own_none _)); have teq : ((strOfNums (Tx.encode rs)).toList != (strOfNums (Tx.encode rs)).toList) = false := by simp)
      obtain ⟨A4, c4, hv4, hl4, hle4, hnone4, hrd4⟩ := Rd.own hrow4
      subst hv4
      have hB4 : Below w.heap.size w (w4.alloc (.cells #[.int .i64 0] 3)) := (hBw.trans (hb4.mono hBw.size)).alloc (by have := (hBw.trans (hb4.mono hBw.size)).size; omega) _
      have hlE := Tx.encode_len rs
      have HS := Lib.hid (signs_any (Tx.encode rs) A4 c4 _ (hrd4.below ((Below.refl _ _).alloc (Nat.le_refl _) (.cells #[.int .i64 0] 3))) hnone4 (by omega))
      have p0 := (q0'.kept (row := none) ⟨hb4.os, hb4.tape, hb4.output, hb4.size, fun k hk _ => hb4.block k hk⟩ (by simp)).alloc (.cells #[.int .i64 0] 3)
      have p1 := (q1'.kept (row := none) ⟨hb4.os, hb4.tape, hb4.output, hb4.size, fun k hk _ => hb4.block k hk⟩ (by simp)).alloc (.cells #[.int .i64 0] 3)
      have p2 := Boxed.new w4 3 (.int .i64 0)
      have hNlt : w.heap.size + 1 < w4.heap.size := by have := q1.lt; have := hB.size; have := hb4.size; omega
      clear s1 s2 teq cq0 q0' q1' HE hrow hrow4 hrd4 hB hBw hb4
      gi_wp2_with (refine ⟨trivial, ?_⟩; gi_at_call 12; refine (callsIn_wide.2 HS.out).mono ?_; rintro e w5 ⟨B1, A5, c5, rfl, hB5, hsrc, hb5⟩)
      have hI0 : EncI rs A cap w w.heap.size w4.heap.size 0 w5 := by
        have hg : (w4.alloc (.cells #[.int .i64 0] 3)).grownBy w5 none := ⟨hb5.os, hb5.tape, hb5.output, hb5.size, fun k hk _ => hb5.block k hk⟩
        exact ⟨p0.kept hg (by simp), p1.kept hg (by simp), p2.kept hg (by simp), hB4.trans (hb5.mono hB4.size)⟩
      have hBw5 := hI0.2.2.2
      replace hsrc := hsrc.weak
      clear p0 p1 p2 HS hB4 hB5 hb5 q0 q1 hle4 hnone4
      have hbE := Tx.encode_bytes rs
      have hsE := Tx.signs_enc rs
      have hlS := congrArg List.length hsE
      simp only [List.length_map] at hlS
      obtain ⟨E, hE⟩ : ∃ E, Tx.encode rs = E := ⟨_, rfl⟩
      obtain ⟨N, hN⟩ : ∃ N, w4.heap.size = N := ⟨_, rfl⟩
      obtain ⟨Q, hQ⟩ : ∃ Q, w.heap.size = Q := ⟨_, rfl⟩
      rw [hE] at hsrc hlE hbE hsE hlS
      rw [hN, hQ] at hI0 hNlt
      rw [hE, hN, hQ]
      have HSE := Lib.hid hsE
      have HQ := Lib.hid hQ
      have HLS := Lib.hid hlS
      clear hE hN hQ hsE hlS w4
      refine wpIn_rangeFunc_ownF (F := Fence.wide) (n := 9) rfl (by omega) (gf := 28) (lb := #[.pointer (some ⟨B1, 0, none⟩)]) rfl trivial (enters_of Try.func28 (by kernel_rfl) rfl)
        (signs1_stops 8 (by omega) E 0 B1 A5 c5 (by omega) (fun i => rng_getD hbE i) w5 hsrc) src_kt (fun W l o o' _ h1 h2 _ => src_kb W l o o' h1 h2) (Below.refl _ _) (fun _ => rfl)
        (fun pre W => pre.map Prod.snd <+: rs.map Tx.san ∧ EncI rs A cap w Q N pre.length W)
        (fun _ pre _ => ¬ pre.map Prod.snd <+: rs.map Tx.san)
        (OwnFrom.and (fun s X Y row h _ _ => h) (encI_own (fun pre : List (Nat × Int) => pre.length) hBw5.size))
        (fun _ _ _ _ _ hs _ _ => hs)
        ⟨by simp, hI0⟩
        (fun x => { tmps := #[.slice A rs.length cap, .pointer (some ⟨Q, 0, none⟩), .pointer (some ⟨Q + 1, 0, none⟩), u3, undef, u5, .slice A4 E.length c4, .pointer (some ⟨N, 0, none⟩), undef, .int .i32 x.2, undef, .bool true, .bool false, .slice A rs.length cap, .int .i64 rs.length, .bool false, .slice (some ⟨w1.heap.size, 0, none⟩) 0 0, .slice A rs.length cap, .int .i64 rs.length, .int .i64 rs.length, .bool false, u21, u22, u23, u24, u25, u26, u27, .slice A rs.length cap, .slice A4 E.length c4, .slice A4 E.length c4, .string (strOfNums E), u3, .string (strOfNums E), .bool false, .slice A4 E.length c4, .func (.func 28) #[] #[.pointer (some ⟨B1, 0, none⟩)], .int .i64 x.1, .int .i32 x.2, undef, undef, undef, undef, undef, undef, undef, undef, undef, undef, undef, undef, undef, undef, undef, undef, undef, undef, undef, undef, undef, undef, undef, undef, undef, undef, undef, undef, undef, undef, undef, undef, undef, undef, undef, undef, undef, undef], defers := [] }) ?assign ?body ?done ?stop
      case assign =>
        intro l x W K hK
        gi_wp2
        exact hK
      case body =>
        rintro l pre ⟨p, r⟩ W ⟨hpre, hI⟩ hlt
        have hI0 := hI
        obtain ⟨b0, b1, b2, hB⟩ := hI
        have c0 := b0.cell
        have c1 := b1.cell
        have f1 := b1.frozen
        have c2 := b2.cell
        have f2 := b2.frozen
        by_cases hn : pre.length < rs.length
        · obtain ⟨bb, off, rfl, hbb, hcs⟩ := hr.pos (by omega)
          have hck := (hB.cell (p := ⟨bb, off + pre.length, none⟩) hbb).trans (hcs pre.length hn)
          obtain ⟨y, hyy⟩ : ∃ y, rs[pre.length]?.getD 0 = y := ⟨_, rfl⟩
          have hget : (rs.map Tx.san)[(pre.map Prod.snd).length]? = some (Tx.san y) := by
            rw [List.length_map, List.getElem?_map, List.getElem?_eq_getElem hn]
            rw [List.getElem?_eq_getElem hn, Option.getD_some] at hyy
            rw [hyy]; rfl
          have HG := Lib.hid hget
          rw [hyy] at hck
          clear hcs hget hyy hbd hr
          by_cases hbad : y < 0 ∨ 1114111 < y ∨ 55296 ≤ y ∧ y ≤ 57343
          · have hsan : Tx.san y = 65533 := by unfold Tx.san; rw [if_pos hbad]
            have HSN := Lib.hid hsan
            clear hsan
            rcases hbad with hb1 | hb1 | ⟨hb1, hb2⟩
            all_goals
              cases t : (r != 65533) with
              | true =>
                gi_wp2
                exact ⟨KeepsOthers.setCell _ _ _, fun h => by rw [List.map_append] at h; have h65 : r = 65533 := (pre_nx hpre (HG.out.trans (by rw [HSN.out]))).1 h; exact absurd t (by rw [h65]; simp)⟩
              | false =>
                gi_wp2
                have hr65 : r = 65533 := by simpa using t
                refine ⟨KeepsOthers.setCell _ _ _, fun hs => hs.set hI0.2.2.1 (by decide) (by decide) _, ?_, ?_⟩
                · rw [List.map_append]; exact (pre_nx hpre (HG.out.trans (by rw [HSN.out]))).2 hr65
                · rw [List.length_append]; exact encI_n hI0 hNlt (Nat.le_of_eq HQ.out) (pre.length + 1)
          · have hsan : Tx.san y = y := by unfold Tx.san; rw [if_neg hbad]
            have HSN := Lib.hid hsan
            have hy0 : 0 ≤ y := by omega
            have hy1 : y ≤ 1114111 := by omega
            have hy2 : y < 55296 ∨ 57343 < y := by omega
            clear hsan hbad
            rcases hy2 with hy2 | hy2
            all_goals
              cases t : (r != y) with
              | true =>
                gi_wp2
                exact ⟨KeepsOthers.setCell _ _ _, fun h => by rw [List.map_append] at h; have h65 : r = y := (pre_nx hpre (HG.out.trans (by rw [HSN.out]))).1 h; exact absurd t (by rw [h65]; simp)⟩
              | false =>
                gi_wp2
                have hr65 : r = y := by simpa using t
                refine ⟨KeepsOthers.setCell _ _ _, fun hs => hs.set hI0.2.2.1 (by decide) (by decide) _, ?_, ?_⟩
                · rw [List.map_append]; exact (pre_nx hpre (HG.out.trans (by rw [HSN.out]))).2 hr65
                · rw [List.length_append]; exact encI_n hI0 hNlt (Nat.le_of_eq HQ.out) (pre.length + 1)
        · clear hbd
          gi_wp2
          exact ⟨KeepsOthers.setCell _ _ _, fun h => by rw [List.map_append] at h; exact pre_lg (by rw [List.length_map, List.length_map]; exact hn) h⟩
      case done =>
        rintro D ys W hD rfl ⟨hpre, hI⟩ hK
        rw [HLS.out] at hI
        obtain ⟨b0, b1, b2, hB⟩ := hI
        have c0 := b0.cell
        have c1 := b1.cell
        have f1 := b1.frozen
        have c2 := b2.cell
        have tt : ((rs.length : Int) == (rs.length : Int)) = true := by simp
        have kc := fun (w : World) (C : Array Value) (n c : Nat) => Lib.run_convert_bytes_const (P := Try.prog) w 22 5 C n c Try.underlying22 Try.underlying5
        clear hbd
        have hDl : D < W.heap.size := by
          rcases Nat.lt_or_ge D W.heap.size with h | h
          · exact h
          · rw [Array.getElem?_eq_none h] at hK; cases hK
        gi_wp2_with (refine ⟨trivial, ?_⟩; gi_at_call 17; refine (callsIn_wide.2 (put_ab W.heap.size _ (by simp) (cell_new1 W _ _ _))).mono ?_; rintro e w6 ⟨v6, rfl, hrow6, hb6⟩; have s6 := str_own (P := Try.prog) Try.underlying22 Try.underlying5 Try.underlying9 hrow6; rw [str_ab] at s6; have hg6 : (W.alloc (.cells #[.int .u8 97] 5 (1, 2))).grownBy w6 none := ⟨hb6.os, hb6.tape, hb6.output, hb6.size, fun k hk _ => hb6.block k hk⟩; have b1' := (b1.alloc (.cells #[.int .u8 97] 5 (1, 2))).kept hg6 (by simp); have c1' := b1'.cell; have f1' := b1'.frozen)
        have hK6 : w6.heap[D]? = some (.deferred (some [])) := by
          have := hb6.block D (by simp; omega)
          rw [this, heap_alloc_lt W _ hDl]; exact hK
        have hk := (KeepsOthers.setCell w6 ⟨Q + 1, 0, none⟩ (.bool true)).same D _ hK6 rfl
        have bq := b1'.set (.bool true)
        have bq2 : Boxed ((w6.setCell ⟨Q + 1, 0, none⟩ (.bool true)).putObj D (.deferred none)) (Q + 1) 4 (.bool true) := bq.kept (grownBy_putObj' _ D _) (box_nq bq hk rfl)
        have hcq := bq2.cell
        have hB6 : Below w.heap.size w w6 := (hB.alloc hB.size _).trans (hb6.mono (by have := hB.size; simp; omega))
        have hBF := hB6.setCell (p := ⟨Q + 1, 0, none⟩) (by have := HQ.out; simp; omega) (.bool true)
        refine ⟨by simp, .inl ⟨_, _, rfl, run_takeDeferred hk, ?_⟩⟩
        refine ⟨.bool true, ?_, rfl, ?_⟩
        · simp [results, Try.f5, go_sem, hcq]
        · have hwz := hBw5.size
          exact hBF.trans (belowK_b (w := w) (Nat.le_refl _) (w6.setCell ⟨Q + 1, 0, none⟩ (.bool true)) D _ (.deferred none) (by omega) hk rfl rfl)
      case stop =>
        rintro D c pre W _ hpre h _
        exact absurd (by rw [← HSE.out]; exact hpre.map Prod.snd) h

theorem encodes_long (rs : List Int) (A : Option Addr) (cap : Nat) (w : World) (hl : 500 < rs.length) :
    Calls Try.prog 5 #[.slice A rs.length cap] w fun e w' => e = .returned (.bool true) ∧ Below w.heap.size w w' := by
  refine (callsIn_wide (n := 9)).1 ?_
  refine callsIn_of_wp_marks Try.func5 rfl trivial ?_ rfl
  simp only [Try.ntmps5, List.size_toArray, List.length_cons, List.length_nil, Nat.reduceAdd, Nat.reduceSub, Array.replicate_succ, Array.replicate_zero, List.push_toArray, List.append_toArray, List.nil_append, List.cons_append]
  gi_wp2_with (refine ⟨trivial, ?_⟩; gi_at_call 10; refine (callsIn_wide.2 (head1_any _)).mono ?_; rintro e w1 ⟨rfl, hb1⟩; have q0 := ((Boxed.new w 24 (.slice A rs.length cap)).alloc (.cells #[.bool false] 4)).kept (row := none) ⟨hb1.os, hb1.tape, hb1.output, hb1.size, fun k hk _ => hb1.block k hk⟩ (by simp); have c0 := q0.cell; have q1 := (Boxed.new (w.alloc (.cells #[.slice A rs.length cap] 24)) 4 (.bool false)).kept (row := none) ⟨hb1.os, hb1.tape, hb1.output, hb1.size, fun k hk _ => hb1.block k hk⟩ (by simp); rw [World.size_alloc] at q1; have cq := q1.cell; have fq := q1.frozen)
  have hB1 : Below w.heap.size w w1 := (((Below.refl _ _).alloc (Nat.le_refl _) _).alloc (by simp) _).trans (hb1.mono (by simp; omega))
  have hcq := (q1.set (.bool true)).cell
  refine ⟨.bool true, ?_, rfl, hB1.setCell (p := ⟨w.heap.size + 1, 0, none⟩) (by simp) _⟩
  simp [results, Try.f5, go_sem, hcq]

end Go.Proofs.Ytdoglpaggmdnpaa
