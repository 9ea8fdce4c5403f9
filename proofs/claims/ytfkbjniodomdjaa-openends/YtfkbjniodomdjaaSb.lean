/- Slices of numbers whose rows may be longer than they are, and append onto them. -/
import Derived.Test.YtfkbjniodomdjaaGm
import Derived.Maps.AppendAt
import Derived.Laws.Append
import Derived.RegionTactic
namespace Go.Proofs.Ytfkbjniodomdjaa
open Go.RowKit

theorem infoInt : (Try.prog.info? 3).map (fun i => (i.zero, i.size, i.bytes)) = some (some (.int .i64 0), 1, 8) := by kernel_rfl
abbrev nilS : Value := .slice none 0 0
/-- the slice v reads as l; from its end to its capacity there are cells -/
def RI (w : World) (v : Value) (l : List Int) : Prop :=
  (v = nilS ∧ l = []) ∨ ∃ (g cap : Nat) (cur : Array Value), v = .slice (some ⟨g, 0, none⟩) l.length cap ∧ w.heap[g]? = some (.cells cur 3 (0, 0)) ∧ l.length ≤ cap ∧ cap ≤ cur.size ∧ cap ≤ maxLen ∧ cur.toList.take l.length = l.map (Value.int .i64)

section
variable {w w' : World} {v : Value} {l : List Int}
theorem RI.nil : RI w nilS [] := .inl ⟨rfl, rfl⟩
theorem RI.form (h : RI w v l) : ∃ A cap, v = .slice A l.length cap ∧ (A = none → cap = 0) ∧ l.length ≤ cap ∧ Rd w .i64 A l := by
  rcases h with ⟨rfl, rfl⟩ | ⟨g, cap, cur, rfl, hg, hn, hc, _, ht⟩
  · exact ⟨none, 0, rfl, fun _ => rfl, Nat.le_refl _, .inl rfl⟩
  · refine ⟨some ⟨g, 0, none⟩, cap, rfl, (fun e => by cases e), hn, .inr ⟨g, 0, rfl, (Array.getElem?_eq_some_iff.1 hg).1, fun i hi => ?_⟩⟩
    simp only [World.cell?, hg]
    have h1 : (cur.toList.take l.length)[i]? = some (.int .i64 (l[i]?.getD 0)) := by
      rw [ht, List.getElem?_map, List.getElem?_eq_getElem hi]; rfl
    rw [List.getElem?_take, if_pos hi, Array.getElem?_toList] at h1
    simpa using h1
theorem RI.ofBlock (h : RI w v l) (hb : ∀ g, v.ownBlock = some g → w'.heap[g]? = w.heap[g]?) : RI w' v l := by
  rcases h with h | ⟨g, cap, cur, rfl, hg, h2⟩
  · exact .inl h
  · exact .inr ⟨g, cap, cur, rfl, (hb g rfl).trans hg, h2⟩
theorem RI.keep (h : RI w v l) (hb : Below w.heap.size w w') : RI w' v l := by
  rcases h with h | ⟨g, cap, cur, rfl, hg, h2⟩
  · exact .inl h
  · exact .inr ⟨g, cap, cur, rfl, (hb.block g (Array.getElem?_eq_some_iff.1 hg).1).trans hg, h2⟩
theorem RI.lt (h : RI w v l) {g : Nat} (e : v.ownBlock = some g) : g < w.heap.size := by
  rcases h with ⟨rfl, _⟩ | ⟨g', cap, cur, rfl, hg, _⟩
  · cases e
  · cases e
    exact (Array.getElem?_eq_some_iff.1 hg).1
theorem RI.far (h : RI w v l) {row : Option Nat} (hg : w.grownBy w' row) (hne : ∀ g, v.ownBlock = some g → row ≠ some g) : RI w' v l :=
  h.ofBlock (fun g e => hg.block g (h.lt e) (fun h' => hne g e h'.symm))
theorem RI.own {base : Nat} (h : w.ownsRow base 3 1 v l.length (l.map (Value.int .i64))) : RI w v l := by
  rcases h.2 with ⟨rfl, hn⟩ | ⟨g, cap, cur, rfl, _, hg, hnc, hcm, hcs, ht⟩
  · exact .inl ⟨rfl, List.eq_nil_of_length_eq_zero hn⟩
  · exact .inr ⟨g, cap, cur, rfl, hg, hnc, by omega, hcm, by simpa using ht⟩
end

/-- there is room behind the slice's end -/
def SpI (v : Value) (l : List Int) : Prop := ∃ A cap, v = .slice A l.length cap ∧ l.length < cap
/-- the longer slice: the old one, or one in a new block -/
def AtI (B : Nat) (v : Value) (l m : List Int) (v' : Value) : Prop :=
  (∃ A cap, v = .slice A l.length cap ∧ v' = .slice A (l ++ m).length cap ∧ (l.length < cap ∨ m = [])) ∨ ∃ g, v'.ownBlock = some g ∧ B ≤ g
theorem AtI.own {B : Nat} {v v' : Value} {l m : List Int} (h : AtI B v l m v') : v'.ownBlock = v.ownBlock ∨ ∃ g, v'.ownBlock = some g ∧ B ≤ g := by
  rcases h with ⟨A, cap, rfl, rfl, _⟩ | h
  · left
    cases A <;> rfl
  · exact .inr h
theorem AtI.mono {B B' : Nat} {v v' : Value} {l m : List Int} (h : AtI B v l m v') (hB : B' ≤ B) : AtI B' v l m v' := by
  rcases h with h | ⟨g, h, hg⟩
  · exact .inl h
  · exact .inr ⟨g, h, Nat.le_trans hB hg⟩
/-- what an append leaves: the longer slice, in its old row or a new one; all that reads no further than the old slice -/
structure ApI (w : World) (v : Value) (l m : List Int) (v' : Value) (w' : World) : Prop where
  rd : RI w' v' (l ++ m)
  grown : w.grownBy w' v.ownBlock
  at_ : AtI w.heap.size v l m v'
  stay : ∀ t lt, RI w t lt → (t.ownBlock = v.ownBlock → SpI v l → lt.length ≤ l.length) → RI w' t lt

theorem run_append_ri {w : World} {v : Value} {l m : List Int} {B : Option Addr} {cb : Nat} (ty : TypeId) (hv : RI w v l) (hd : Rd w .i64 B m) (hB : B = none → cb = 0) (hb : l.length + m.length ≤ 100000000) :
    ∃ v' w', (Builtin.append_ #[30, 30] ty #[v, .slice B m.length cb]).run Try.prog w = .ok v' w' ∧ ApI w v l m v' w' := by
  obtain ⟨i0, hi, hz0, hz1, hz2⟩ := info_parts infoInt
  cases B with
  | none =>
    have hm : m = [] := by
      rcases hd with h | ⟨b, off, h, _⟩
      · exact h
      · cases h
    subst hm
    obtain rfl : cb = 0 := hB rfl
    refine ⟨v, w, ?_, ⟨by simpa using hv, ⟨rfl, rfl, rfl, Nat.le_refl _, fun _ _ _ => rfl⟩, ?_, fun _ _ h _ => h⟩⟩
    rotate_left
    · rcases hv with ⟨rfl, rfl⟩ | ⟨g, cap, cur, rfl, _⟩
      · exact .inl ⟨none, 0, rfl, rfl, .inr rfl⟩
      · exact .inl ⟨_, _, rfl, by simp, .inr rfl⟩
    rcases hv with ⟨rfl, rfl⟩ | ⟨g, cap, cur, rfl, hg, hn, _⟩
    · simp [nilS, Builtin.append_, run_underlying Try.underlying30, sizeOf, typeInfo, hi, Builtin.lenOf, Builtin.firstCells]
    · simp [Builtin.append_, run_underlying Try.underlying30, sizeOf, typeInfo, hi, Builtin.lenOf, Builtin.firstCells, hn, storeCells]
  | some ad =>
    rcases hv with ⟨rfl, rfl⟩ | ⟨g, cap, cur, rfl, hg, hn, hc, hcm, ht⟩
    · obtain ⟨v', w', hrun, h2, h3, _, h5⟩ := run_append_own_at (P := Try.prog) w w.heap.size 30 ty 3 i0 (.int .i64 0) 1 8 Try.underlying30 hi hz0 hz1 hz2 rfl (by decide) nilS 0 [] (World.ownsRow_nil w _ _ _) ad m.length cb (m.map (Value.int .i64)) (by simp) hd.add (ints_one m) (by unfold maxLen; simp at hb; omega) (by simp at hb; omega) (Nat.le_refl _)
      refine ⟨v', w', hrun, ⟨RI.own (base := w.heap.size) (by simpa using h2), h3, ?_, fun t lt h _ => h.far h3 (fun g _ e => by cases e)⟩⟩
      rcases h5 with h5 | h5
      · rcases h2.2 with ⟨rfl, hn0⟩ | ⟨g, cap, cur, rfl, _⟩
        · have : m = [] := List.eq_nil_of_length_eq_zero (by simpa using hn0)
          subst this
          exact .inl ⟨none, 0, rfl, rfl, .inr rfl⟩
        · cases h5
      · exact .inr ⟨_, h5, Nat.le_refl _⟩
    · by_cases hroom : l.length + m.length ≤ cap
      · have hr := run_append_room (P := Try.prog) w 30 ty 3 i0 Try.underlying30 hi g l.length cap cur hg ad m.length cb (m.map (Value.int .i64)) (by simp [hz1]) hd.add (ints_one m) hroom (by simp [hz1]; omega)
        rw [hz1] at hr
        simp only [Nat.mul_one, List.length_map] at hr
        have hheap := setRow_heap w g cur (cur.toList.take l.length ++ m.map (Value.int .i64) ++ cur.toList.drop (l.length + m.length)).toArray 3 (0, 0) hg
        refine ⟨_, _, hr, ⟨.inr ⟨g, cap, _, by simp, hheap, by simpa using hroom, ?_, hcm, ?_⟩, ⟨rfl, rfl, rfl, by simp, fun k _ hk => setRow_other w g k _ (fun e => hk (by simp [Value.ownBlock, e]))⟩, .inl ⟨_, cap, rfl, by simp, by
          rcases Nat.lt_or_ge l.length cap with h | h
          · exact .inl h
          · exact .inr (List.eq_nil_of_length_eq_zero (by omega))⟩, ?_⟩⟩
        · simp
          omega
        · rw [ht, ← List.map_append]
          have : (l ++ m).length = ((l ++ m).map (Value.int .i64)).length := by simp
          rw [this]
          exact List.take_left
        · intro t lt h hle
          rcases h with h | ⟨g2, cap2, cur2, rfl, hg2, h3, h4, h5, h6⟩
          · exact .inl h
          · by_cases e : g2 = g
            · subst e
              rw [hg] at hg2
              injection hg2 with hg2
              injection hg2 with hg2
              subst hg2
              rcases Nat.lt_or_ge l.length cap with hsp | hsp
              rotate_left
              · have hm0 : m = [] := List.eq_nil_of_length_eq_zero (by omega)
                subst hm0
                have hsame : (cur.toList.take l.length ++ ([] : List Int).map (Value.int .i64) ++ cur.toList.drop (l.length + ([] : List Int).length)).toArray = cur := by simp
                rw [hsame] at hheap
                exact .inr ⟨g2, cap2, cur, rfl, by rw [hsame]; exact hheap, h3, h4, h5, h6⟩
              have hl := hle rfl ⟨_, cap, rfl, hsp⟩
              refine .inr ⟨g2, cap2, _, rfl, hheap, h3, ?_, h5, ?_⟩
              · simp
                omega
              · rw [List.append_assoc, List.toList_toArray, List.take_append_of_le_length (by simp; omega), List.take_take, Nat.min_eq_left hl]
                exact h6
            · exact .inr ⟨g2, cap2, cur2, rfl, (setRow_other w g g2 _ e).trans hg2, h3, h4, h5, h6⟩
      · have holds : ∀ j u, (l.map (Value.int .i64))[j]? = some u → w.cell? ((⟨g, 0, none⟩ : Addr).add j) = some u := by
          obtain ⟨A, c, e, _, _, hrd⟩ := (show RI w (.slice (some ⟨g, 0, none⟩) l.length cap) l from .inr ⟨g, cap, cur, rfl, hg, hn, hc, hcm, ht⟩).form
          injection e with e1 e2 e3
          subst e1
          exact hrd.add
        have hsm : l.length + m.length ≤ maxLen := by unfold maxLen; omega
        have hr := run_append_grow (P := Try.prog) w 30 ty 3 i0 (.int .i64 0) Try.underlying30 hi hz0 ⟨g, 0, none⟩ l.length cap (l.map (Value.int .i64)) (by simp [hz1]) holds ad m.length cb (m.map (Value.int .i64)) (by simp [hz1]) hd.add (by omega) (by omega) (growslice_fits (by omega) (by rw [hz2]; omega))
        have hge := grownCap_ge w (l.length + m.length) cap 3
        refine ⟨_, _, hr, ⟨.inr ⟨w.heap.size, grownCap w (l.length + m.length) cap 3, _, by rw [List.length_append], heap_alloc_new w.drew _, by simpa using hge, ?_, grownCap_le_maxLen w _ _ _ hsm, ?_⟩, ⟨rfl, rfl, rfl, by simp, fun k hk _ => Below.heap_alloc w.drew _ k hk⟩, .inr ⟨_, rfl, Nat.le_refl _⟩, ?_⟩⟩
        · rw [Array.size_append, size_zeroCells, show (Value.int .i64 0).cells.size = 1 from rfl]
          simp
          omega
        · simp only [Array.toList_append, ← List.map_append]
          have : (l ++ m).length = ((l ++ m).map (Value.int .i64)).length := by simp
          rw [this]
          exact List.take_left
        · intro t lt h _
          exact h.ofBlock (fun k e => Below.heap_alloc w.drew _ k (h.lt e))

theorem wp_append_ri {w : World} {o : Oper} {a : Act} {K : Act → World → Prop} {Q : Exit → Act → World → Prop} (s x : Operand) (ho : o.op = .call { callee := .builtin .append, args := #[s, x], argTypes := #[30, 30] })
    (v : Value) (l m : List Int) (B : Option Addr) (n cb : Nat) (hn : n = m.length) (hs : a.eval s = v) (hx : a.eval x = .slice B n cb) (hv : RI w v l) (hd : Rd w .i64 B m) (hB : B = none → cb = 0) (hb : l.length + m.length ≤ 100000000)
    (h : ∀ v' w', ApI w v l m v' w' → K (a.put o.dst v') w') : o.wp Try.prog a w K Q := by
  subst hn
  obtain ⟨v', w', hrun, h2⟩ := run_append_ri o.type hv hd hB hb
  unfold Oper.wp execOp
  simp only [ho, resolve, invoke, builtin, Sem.run_bind, Sem.run_pure, Result.andThen_ok, List.map_toArray, List.map_cons, List.map_nil, hs, hx, hrun]
  exact h v' w' h2
theorem step_append_ri {w : World} {ops : Array Oper} {o : Oper} {a : Act} {K : Act → World → Prop} {Q : Exit → Act → World → Prop} {E : Prop} (hgd : o.guard = none) (s x : Operand) (ho : o.op = .call { callee := .builtin .append, args := #[s, x], argTypes := #[30, 30] })
    (v : Value) (l m : List Int) (B : Option Addr) (n cb : Nat) (hn : n = m.length) (hs : a.eval s = v) (hx : a.eval x = .slice B n cb) (hv : RI w v l) (hd : Rd w .i64 B m) (hB : B = none → cb = 0) (hb : l.length + m.length ≤ 100000000)
    (h : ∀ v' w', ApI w v l m v' w' → K (a.put o.dst v') w') : if Region.wanted o (yielded ops a.tmps) = true then Oper.wp Try.prog o a w K Q else E := by
  have hw : Region.wanted o (yielded ops a.tmps) = true := by simp [Region.wanted, hgd]
  rw [if_pos hw]
  exact wp_append_ri s x ho v l m B n cb hn hs hx hv hd hB hb h

theorem wpList_append_ri {w : World} {ops : Array Oper} {rest : List Oper} {o : Oper} {a : Act} {Q : Exit → Act → World → Prop} (hgd : o.guard = none) (s x : Operand) (ho : o.op = .call { callee := .builtin .append, args := #[s, x], argTypes := #[30, 30] })
    (v : Value) (l m : List Int) (B : Option Addr) (n cb : Nat) (hn : n = m.length) (hs : a.eval s = v) (hx : a.eval x = .slice B n cb) (hv : RI w v l) (hd : Rd w .i64 B m) (hB : B = none → cb = 0) (hb : l.length + m.length ≤ 100000000)
    (h : ∀ v' w', ApI w v l m v' w' → wpList Try.prog ops Q rest (a.put o.dst v') w') : wpList Try.prog ops Q (o :: rest) a w :=
  wpList_plain hgd fun _ hK => wp_append_ri s x ho v l m B n cb hn hs hx hv hd hB hb fun v' w' h1 => hK _ _ (h v' w' h1)
end Go.Proofs.Ytfkbjniodomdjaa
