/- A range over a map of slices; the contract of a volume's twin. -/
import Derived.Test.YtpljmoiemmaecaaDc
import Derived.Maps.RangeWalk
import Derived.Laws.IdiomRangeMap
namespace Go.Proofs.Ytpljmoiemmaecaa
open Go.RowKit Go.Maps Go.WideMaps

/-- a range over the map b, by the iterator r: L tells which names are still to come -/
def RngV (w : World) (b r n : Nat) (V : ByteArray → Option Value) (L : ByteArray → Bool) (cnt : Nat) : Prop :=
  ∃ (D : DataW Unit) (left : Lit → Bool), w.ranges Try.prog 9 sv b r n D left cnt ∧ (∀ s : ByteArray, has D (ky s) = (V s).isSome ∧ D.atKey (ky s) (sd nilS) = sd ((V s).getD nilS) ∧ isS ((V s).getD nilS) = true) ∧ ∀ s, left (ky s) = L s
theorem RngV.kept {w w' : World} {b r n cnt : Nat} {V : ByteArray → Option Value} {L : ByteArray → Bool} {row : Option Nat} (h : RngV w b r n V L cnt) (hg : w.grownBy w' row) (h1 : some b ≠ row) (h2 : some r ≠ row) : RngV w' b r n V L cnt := by
  obtain ⟨D, left, h3, h4, h5⟩ := h
  exact ⟨D, left, h3.kept hg h1 h2, h4, h5⟩
theorem RngV.lt {w : World} {b r n cnt : Nat} {V : ByteArray → Option Value} {L : ByteArray → Bool} (h : RngV w b r n V L cnt) : r < w.heap.size ∧ b < w.heap.size ∧ r ≠ b := by
  obtain ⟨D, left, h3, _⟩ := h
  exact ⟨h3.lt, h3.owns.lt, h3.ne⟩
theorem RngV.left_eq {w : World} {b r n cnt : Nat} {V : ByteArray → Option Value} {L : ByteArray → Bool} (h : RngV w b r n V L cnt) : w.rangeLeft b r = cnt := by
  obtain ⟨D, left, h3, _⟩ := h
  exact h3.left_eq
theorem RngV.map {w : World} {b r n cnt : Nat} {V : ByteArray → Option Value} {L : ByteArray → Bool} (h : RngV w b r n V L cnt) : MapV w b n V := by
  obtain ⟨D, left, h3, h4, _⟩ := h
  exact ⟨D, h3.owns, h4⟩
theorem key_inv {key : Value} {kl : Lit} (h : keyOf Try.prog 9 key = some kl) : ∃ s : ByteArray, key = .string s ∧ kl = ky s ∧ s.size ≤ maxLen := by
  obtain ⟨s, rfl, h1, h2⟩ := string_of_keyOf Try.underlying9 h
  exact ⟨s, rfl, h1, h2⟩
theorem same_ky (s t : ByteArray) : (ky s).sameKey (ky t) = decide (s = t) := by
  by_cases h : s = t
  · subst h
    simp [ky, Lit.sameKey]
  · rw [sameKey_ne (fun e => h (ky_inj e))]
    simp [h]

theorem wpList_range_V {w : World} {ops : Array Oper} {rest : List Oper} {o : Oper} {a : Act} {Q : Exit → Act → World → Prop} (hg : o.guard = none) (m : Operand) (hop : o.op = Op.range 56 m) (b n : Nat) (V : ByteArray → Option Value)
    (hm : a.eval m = .map (some b)) (hM : MapV w b n V)
    (hK : ∀ w' cnt, RngV w' b w.heap.size n V (fun s => (V s).isSome) cnt → cnt ≤ n → w.grownBy w' none → wpList Try.prog ops Q rest (a.put o.dst (.pointer (some ⟨w.heap.size, 0, none⟩))) w') : wpList Try.prog ops Q (o :: rest) a w := by
  obtain ⟨D, h1, h2⟩ := hM
  exact wpList_range_own w hg m 56 hop 9 28 K Try.underlying56 sv b n D hm h1 (fun w' h3 h4 _ => hK w' _ ⟨D, has D, h3, h2, fun s => (h2 s).1⟩ h1.size_le h4)

theorem wpList_next_V {w : World} {ops : Array Oper} {rest : List Oper} {o : Oper} {a : Act} {Q : Exit → Act → World → Prop} (hg : o.guard = none) (it : Operand) (hop : o.op = Op.next it false) (b r n : Nat) (V : ByteArray → Option Value) (L : ByteArray → Bool) (cnt : Nat)
    (hit : a.eval it = .pointer (some ⟨r, 0, none⟩)) (h : RngV w b r n V L cnt)
    (hDone : (∀ s, L s = false) → wpList Try.prog ops Q rest (a.put o.dst (.tuple #[.bool false])) w)
    (hMore : ∀ (s : ByteArray) (A : Option Addr) (k c : Nat) (w' : World) (cnt' : Nat), s.size ≤ maxLen → L s = true → V s = some (.slice A k c) → RngV w' b r n V (fun z => L z && !decide (z = s)) cnt' → cnt' < cnt →
      w.grownBy w' (some r) → (Instr.entry (.pointer (some ⟨r, 0, none⟩))).run Try.prog w' = .ok (.tuple #[.string s, .slice A k c]) w' → wpList Try.prog ops Q rest (a.put o.dst (.tuple #[.bool true, .string s, .slice A k c])) w') : wpList Try.prog ops Q (o :: rest) a w := by
  obtain ⟨D, left, h1, h2, h3⟩ := h
  refine wpList_next_ranges w hg it hop 9 K sv Value.string (fun x : Option Addr × Nat × Nat => Value.slice x.1 x.2.1 x.2.2) (fun key kl hkey => by obtain ⟨s, rfl, _⟩ := key_inv hkey; exact ⟨s, rfl⟩) (fun v y hv => ?_) b r n D left cnt hit h1 (fun _ hl => hDone (fun s => by rw [← h3, hl])) ?_
  · obtain ⟨hs, _⟩ := sv_inv (ps := y.2) (d := y.1) hv
    unfold isS at hs
    split at hs
    · exact ⟨(_, _, _), rfl⟩
    · exact ⟨(_, _, _), rfl⟩
    · cases hs
  · intro s x kl y w' cnt' hkey hlk hv hat hrg hlt hgr _ hen
    obtain ⟨s', e, rfl, hsz⟩ := key_inv hkey
    cases e
    obtain ⟨hs1, hs2⟩ := sv_inv (ps := y.2) (d := y.1) hv
    obtain ⟨e1, e2, e3⟩ := h2 s
    have hL : L s = true := by rw [← h3]; exact hlk
    have hsome : (V s).isSome = true := by
      rw [← e1]
      exact has_true_of_atKey hat
    have hV : V s = some (.slice x.1 x.2.1 x.2.2) := by
      obtain ⟨v, hv'⟩ := Option.isSome_iff_exists.1 hsome
      rw [hv', Option.getD_some] at e2 e3
      rw [hv', sd_inj e3 hs1 (by rw [← e2, hat, hs2])]
    refine hMore s x.1 x.2.1 x.2.2 w' cnt' hsz hL hV ⟨D, _, hrg, h2, fun z => ?_⟩ hlt hgr hen
    rw [h3, same_ky]

/-- a slice that ends at its end -/
def cutS : Value → Value
  | .slice A n _ => .slice A n n
  | v => v
theorem make_map_hint (w : World) (n : Int) : (Instr.makeMap 56 (some (.int .i64 n))).run Try.prog w = .ok (.map (some w.heap.size)) (w.alloc (.map #[] 0)) := by
  simp [Instr.makeMap]
  rfl

theorem twin_step {V : ByteArray → Option Value} {L : ByteArray → Bool} {s : ByteArray} {A : Option Addr} {k c : Nat} (h : V s = some (.slice A k c)) :
    (fun x => if (L x && !decide (x = s)) = true then none else (V x).map cutS) = fun t => if t = s then some (.slice A k k) else if L t = true then none else (V t).map cutS := by
  funext x
  by_cases e : x = s
  · subst e
    simp [h, cutS]
  · simp [e]
/-- what twin leaves -/
def Twinned (w : World) (V : ByteArray → Option Value) (n : Nat) (used : Int) (e : Ending) (w' : World) : Prop :=
  ∃ b, e = .returned (.agg #[.map (some b), .int .i64 used]) ∧ w.heap.size ≤ b ∧ MapV w' b n (fun x => (V x).map cutS) ∧ Fr (fun _ => False) w w'

set_option maxRecDepth 100000 in
set_option maxHeartbeats 1000000 in
theorem twin_some (w : World) (d o : Nat) (T : TypeId) (C : Array Value) (b n : Nat) (V : ByteArray → Option Value) (used : Int) (hC : Cel w d T C) (c0 : C[o]? = some (.map (some b))) (c1 : C[o + 1]? = some (.int .i64 used)) (hM : MapV w b n V) (hn : n < 1000000)
    (hV : ∀ s A k c, V s = some (.slice A k c) → k ≤ c ∧ c ≤ maxLen ∧ (A = none → c = 0)) :
    Calls Try.prog 37 #[.pointer (some ⟨d, o, none⟩)] w (Twinned w V n used) := by
  obtain ⟨w1, hw1⟩ : ∃ w1, w.alloc (.cells #[.map none, .int .i64 0] 58) = w1 := ⟨_, rfl⟩
  have hz1 : w1.heap.size = w.heap.size + 1 := by rw [← hw1]; simp
  have hb1 : ∀ k, k < w.heap.size → w1.heap[k]? = w.heap[k]? := fun k hk => by rw [← hw1]; exact Below.heap_alloc w _ k hk
  have hC1 := hC.of (hb1 d hC.lt)
  have hM1 := hM.ofBlock (hb1 b hM.lt)
  have hR1 : Cel w1 w.heap.size 58 #[.map none, .int .i64 0] := by rw [← hw1]; exact heap_alloc_new w _
  have hf1 : Fr (fun _ => False) w w1 := by rw [← hw1]; exact Fr.alloc w _ _
  have h0 := (hC1.cell o).trans c0
  obtain ⟨m, hm, hlen⟩ := hM1.len 3
  have hmk := make_map_hint w1 (m : Int)
  obtain ⟨w2, hw2⟩ : ∃ w2, w1.alloc (.map #[] 0) = w2 := ⟨_, rfl⟩
  rw [hw2] at hmk
  have hz2 : w2.heap.size = w1.heap.size + 1 := by rw [← hw2]; simp
  have hb2 : ∀ k, k < w1.heap.size → w2.heap[k]? = w1.heap[k]? := fun k hk => by rw [← hw2]; exact Below.heap_alloc w1 _ k hk
  have hC2 := hC1.of (hb2 d hC1.lt)
  have hM2 := hM1.ofBlock (hb2 b hM1.lt)
  have hR2 := hR1.of (hb2 _ hR1.lt)
  have hN2 : MapV w2 w1.heap.size 0 (fun _ => none) := by rw [← hw2]; exact MapV.new w1
  have hf2 : Fr (fun _ => False) w1 w2 := by rw [← hw2]; exact Fr.alloc w1 _ _
  have k0 := (hC2.cell o).trans c0
  obtain ⟨N, hN⟩ : ∃ N, w1.heap.size = N := ⟨_, rfl⟩
  rw [hN] at hmk hN2
  have hdl := hC.lt
  have hbl := hM.lt
  have HN := Lib.hid hN
  have HZ2 := Lib.hid hz2
  have HZ1 := Lib.hid hz1
  clear hw2 hN hz2 hz1
  go_enter Try.func37, Try.ntmps37
  go_wp2_with (at_range; refine wpList_range_V rfl _ rfl b n V rfl hM2 ?_; intro w3 cnt hR3 hcn hg3)
  obtain ⟨R, hR⟩ : ∃ R, w2.heap.size = R := ⟨_, rfl⟩
  rw [hR] at hR3
  rw [hR]
  have hRN : N < R := by have := HZ2.out; have := HN.out; omega
  have hwN : w.heap.size < N := by have := HZ1.out; have := HN.out; omega
  have hf3 : Fr (fun _ => False) w w3 := (hf1.trans hf2).trans ((Fr.grown hg3).mono (fun i h => by cases h))
  have hC3 := hC.of (hf3.block d hdl (fun h => h))
  have hV3 : Cel w3 w.heap.size 58 #[.map none, .int .i64 0] := hR2.of (hg3.block _ hR2.lt (by simp))
  have hN3 : MapV w3 N 0 (fun _ => none) := hN2.kept hg3 (by simp)
  clear hR hw1 hb1 hC1 hM1 hR1 hf1 h0 hlen hb2 hC2 hM2 hR2 hf2 k0 hN2 hmk hg3 HN HZ2 HZ1
  go_frame
  go_loopw [4] (fun _ wr => ∃ (L : ByteArray → Bool) (j cnt : Nat), RngV wr b R n V L cnt ∧ j + cnt ≤ n ∧ MapV wr N j (fun x => if L x = true then none else (V x).map cutS) ∧ Cel wr d T C ∧ Cel wr w.heap.size 58 #[.map none, .int .i64 0] ∧ Fr (fun _ => False) w wr)
    (fun _ wr => wr.rangeLeft b R)
  case atStart =>
    refine ⟨_, 0, cnt, hR3, by omega, ?_, hC3, hV3, hf3⟩
    have : (fun x => if (V x).isSome = true then none else (V x).map cutS) = (fun _ => (none : Option Value)) := by
      funext x
      cases V x <;> simp
    rw [this]
    exact hN3
  case round =>
    obtain ⟨L, j, cnt1, hRg, hj, hMp, hCr, hVr, hfr⟩ := hrel
    clear hR3 hC3 hV3 hN3 hf3
    have k1 := (hCr.cell (o + 1)).trans c1
    have v0 := hVr.cell 0
    have v1 := hVr.cell 1
    have z0 := hVr.fz 0
    have z1 := hVr.fz 1
    simp at v0 v1
    have hle := hRg.left_eq
    have HLE := Lib.hid hle
    have hlt3 := hRg.lt
    clear hle
    go_wp2_with (at_next; refine wpList_next_V rfl _ rfl b R n V L cnt1 rfl hRg ?_ ?_)
    · intro hdone
      have hfin : (fun x => if L x = true then none else (V x).map cutS) = fun x => (V x).map cutS := by
        funext x
        rw [hdone x]
        simp
      rw [hfin] at hMp
      go_wp2
      have hV6 : Cel ((wr.setCell ⟨w.heap.size, 0, none⟩ (.map (some N))).setCell ⟨w.heap.size, 1, none⟩ (.int .i64 used)) w.heap.size 58 #[.map (some N), .int .i64 used] := (hVr.set 0 _).set 1 _
      have y0 := hV6.cell 0
      have y1 := hV6.cell 1
      simp only [List.getElem?_toArray, List.getElem?_cons_zero, List.getElem?_cons_succ] at y0 y1
      refine bodyPost_ret (v := .agg #[.map (some N), .int .i64 used]) (by simp [results, Try.results37, go_sem, y0, y1]) rfl ⟨N, rfl, by omega, ?_, ?_⟩
      · refine (hMp.mono (n' := n) (by omega)).ofBlock ?_
        rw [Below.heap_setCell _ ⟨w.heap.size, 1, none⟩ _ N (by simp; omega), Below.heap_setCell _ ⟨w.heap.size, 0, none⟩ _ N (by simp; omega)]
      · exact (hfr.then (Fr.set _ w.heap.size 0 _) (fun i h => .inr (by omega))).then (Fr.set _ w.heap.size 1 _) (fun i h => .inr (by omega))
    · intro s A k c w4 cnt4 hsz hLs hVs hRg4 hlt4 hg4 hen
      obtain ⟨hkc, hcm, hA0⟩ := hV s A k c hVs
      unfold maxLen at hcm
      have hMp4 : MapV w4 N j (fun x => if L x = true then none else (V x).map cutS) := hMp.kept hg4 (fun e => by injection e with e; omega)
      have hiS : isS (.slice A k k) = true := by
        obtain ⟨D, _, h3⟩ := hRg4.map
        have := (h3 s).2.2
        rw [hVs, Option.getD_some] at this
        rw [← this]
        cases A with
        | none => rfl
        | some a =>
          obtain ⟨b', o', sp⟩ := a
          cases sp <;> rfl
      obtain ⟨w5, hrun5, hM5, hg5⟩ := hMp4.set s hsz (by unfold maxLen; omega) (.slice A k k) hiS
      have hRg5 := hRg4.kept hg5 (fun e => by injection e with e; omega) (fun e => by injection e with e; omega)
      have hf5 : Fr (fun _ => False) w w5 := (hfr.then (Fr.grown hg4) (fun i h => .inr (by injection h with h; omega))).then (Fr.grown hg5) (fun i h => .inr (by injection h with h; omega))
      have hC5 := hC.of (hf5.block d hdl (fun h => h))
      have hV5 : Cel w5 w.heap.size 58 #[.map none, .int .i64 0] := (hVr.of (hg4.block _ hVr.lt (fun e => by injection e with e; omega))).of (hg5.block _ (Nat.lt_of_lt_of_le hVr.lt hg4.size) (fun e => by injection e with e; omega))
      have HVS := Lib.hid hVs
      clear hVs
      cases A with
      | none =>
        obtain rfl : c = 0 := hA0 rfl
        obtain rfl : k = 0 := by omega
        go_wp2
        exact ⟨⟨_, j + 1, cnt4, hRg5, by omega, by rw [twin_step HVS.out]; exact hM5, hC5, hV5, hf5⟩, by rw [hRg5.left_eq, HLE.out]; exact hlt4⟩
      | some a =>
        go_wp2
        exact ⟨⟨_, j + 1, cnt4, hRg5, by omega, by rw [twin_step HVS.out]; exact hM5, hC5, hV5, hf5⟩, by rw [hRg5.left_eq, HLE.out]; exact hlt4⟩

set_option maxRecDepth 100000 in
set_option maxHeartbeats 1000000 in
theorem twin_none (w : World) (d o : Nat) (T : TypeId) (C : Array Value) (n : Nat) (used : Int) (hC : Cel w d T C) (c0 : C[o]? = some (.map none)) (c1 : C[o + 1]? = some (.int .i64 used)) :
    Calls Try.prog 37 #[.pointer (some ⟨d, o, none⟩)] w (Twinned w (fun _ => none) n used) := by
  obtain ⟨w1, hw1⟩ : ∃ w1, w.alloc (.cells #[.map none, .int .i64 0] 58) = w1 := ⟨_, rfl⟩
  have hz1 : w1.heap.size = w.heap.size + 1 := by rw [← hw1]; simp
  have hC1 := hC.of (w' := w1) (by rw [← hw1]; exact Below.heap_alloc w _ d hC.lt)
  have hR1 : Cel w1 w.heap.size 58 #[.map none, .int .i64 0] := by rw [← hw1]; exact heap_alloc_new w _
  have hf1 : Fr (fun _ => False) w w1 := by rw [← hw1]; exact Fr.alloc w _ _
  have h0 := (hC1.cell o).trans c0
  have hlen := Maps.len_nil (w := w1) Try.underlying56 3
  have hmk := make_map_hint w1 0
  obtain ⟨w2, hw2⟩ : ∃ w2, w1.alloc (.map #[] 0) = w2 := ⟨_, rfl⟩
  rw [hw2] at hmk
  have hz2 : w2.heap.size = w1.heap.size + 1 := by rw [← hw2]; simp
  have hC2 := hC1.of (w' := w2) (by rw [← hw2]; exact Below.heap_alloc w1 _ d hC1.lt)
  have hR2 := hR1.of (w' := w2) (by rw [← hw2]; exact Below.heap_alloc w1 _ _ hR1.lt)
  have hN2 : MapV w2 w1.heap.size 0 (fun _ => none) := by rw [← hw2]; exact MapV.new w1
  have hf2 : Fr (fun _ => False) w1 w2 := by rw [← hw2]; exact Fr.alloc w1 _ _
  have k0 := (hC2.cell o).trans c0
  have hrng := run_range_nilMap (P := Try.prog) w2 56 9 28 Try.underlying56
  have hnx := run_next_nilMap (P := Try.prog) w2 0 0 0 #[]
  obtain ⟨w3, hw3⟩ : ∃ w3, w2.alloc (.mapIter none 0 #[] 0) = w3 := ⟨_, rfl⟩
  rw [hw3] at hrng hnx
  have hC3 := hC2.of (w' := w3) (by rw [← hw3]; exact Below.heap_alloc w2 _ d hC2.lt)
  have hR3 := hR2.of (w' := w3) (by rw [← hw3]; exact Below.heap_alloc w2 _ _ hR2.lt)
  have hN3 : MapV w3 w1.heap.size 0 (fun _ => none) := hN2.ofBlock (by rw [← hw3]; exact Below.heap_alloc w2 _ _ hN2.lt)
  have hf3 : Fr (fun _ => False) w w3 := (hf1.trans hf2).trans (by rw [← hw3]; exact Fr.alloc w2 _ _)
  have k1 := (hC3.cell (o + 1)).trans c1
  have v0 := hR3.cell 0
  have v1 := hR3.cell 1
  have z0 := hR3.fz 0
  have z1 := hR3.fz 1
  simp at v0 v1
  have hdl := hC.lt
  obtain ⟨N, hN⟩ : ∃ N, w1.heap.size = N := ⟨_, rfl⟩
  rw [hN] at hmk hN3
  obtain ⟨Rr, hRr⟩ : ∃ Rr, w2.heap.size = Rr := ⟨_, rfl⟩
  rw [hRr] at hrng hnx
  have hwN : w.heap.size < N := by omega
  clear hN hRr hw2 hw3 hz1 hz2 hC1 hR1 hf1 hC2 hR2 hN2 hf2
  go_enter Try.func37, Try.ntmps37
  go_wp2
  go_loopw [4] (fun _ wr => wr = w3) (fun _ _ => 0)
  case atStart => rfl
  case round =>
    obtain rfl : wr = w3 := hrel
    go_wp2
    have hV6 : Cel ((wr.setCell ⟨w.heap.size, 0, none⟩ (.map (some N))).setCell ⟨w.heap.size, 1, none⟩ (.int .i64 used)) w.heap.size 58 #[.map (some N), .int .i64 used] := (hR3.set 0 _).set 1 _
    have y0 := hV6.cell 0
    have y1 := hV6.cell 1
    simp only [List.getElem?_toArray, List.getElem?_cons_zero, List.getElem?_cons_succ] at y0 y1
    refine bodyPost_ret (v := .agg #[.map (some N), .int .i64 used]) (by simp [results, Try.results37, go_sem, y0, y1]) rfl ⟨N, rfl, by omega, ?_, ?_⟩
    · refine (hN3.mono (n' := n) (Nat.zero_le _)).ofBlock ?_
      rw [Below.heap_setCell _ ⟨w.heap.size, 1, none⟩ _ N (by simp; omega), Below.heap_setCell _ ⟨w.heap.size, 0, none⟩ _ N (by simp; omega)]
    · exact (hf3.then (Fr.set _ w.heap.size 0 _) (fun i h => .inr (by omega))).then (Fr.set _ w.heap.size 1 _) (fun i h => .inr (by omega))

theorem twin_any (w : World) (d o : Nat) (T : TypeId) (C : Array Value) (m : Option Nat) (n : Nat) (V : ByteArray → Option Value) (used : Int) (hC : Cel w d T C) (c0 : C[o]? = some (.map m)) (c1 : C[o + 1]? = some (.int .i64 used)) (hF : Files w m n V) (hn : n < 1000000)
    (hV : ∀ s A k c, V s = some (.slice A k c) → k ≤ c ∧ c ≤ maxLen ∧ (A = none → c = 0)) : Calls Try.prog 37 #[.pointer (some ⟨d, o, none⟩)] w (Twinned w V n used) := by
  rcases hF with ⟨rfl, rfl⟩ | ⟨b, rfl, hM⟩
  · exact twin_none w d o T C n used hC c0 c1
  · exact twin_some w d o T C b n V used hC c0 c1 hM hn hV

end Go.Proofs.Ytpljmoiemmaecaa
