/- Contracts of package chars. -/
import Derived.Test.YtdoglpaggmdnpaaRows
import Derived.Test.YtdoglpaggmdnpaaCx
import Derived.WalkKit
import Derived.WalkSpells
import Derived.Lib.Hide
import Derived.Laws.Tables
import Derived.Deep.WholeRow
namespace Go.Proofs.Ytdoglpaggmdnpaa
open Go.RowKit

theorem ents_zero : (Try.prog.info? 52).map (fun i => i.zero) = some (some (.agg Cx.zeros)) := by kernel_rfl
theorem zero_ents (w : World) : Sem.run Try.prog (zeroValue 52) w = .ok (.agg Cx.zeros) w := by
  have h := ents_zero
  cases hi : Try.prog.info? 52 with
  | none => rw [hi] at h; cases h
  | some i =>
    rw [hi] at h
    simp only [Option.map_some, Option.some.injEq] at h
    simp [zeroValue, typeInfo, hi, h]

/-- straight-line literals, reckoned -/
def builds (P : Program) : List Oper → Act → Option Act
  | [], a => some a
  | o :: r, a =>
    match o.guard, o.op with
    | none, .build t parts =>
      match P.built t (parts.map fun (i, x) => (i, a.eval x)).toList with
      | some cells => builds P r (a.put o.dst (.agg cells))
      | none => none
    | _, _ => none

theorem wpList_builds {P : Program} {ops : Array Oper} {rest : List Oper} {w : World} {Q : Exit → Act → World → Prop} {a' : Act} :
    ∀ (l : List Oper) (a : Act), builds P l a = some a' → wpList P ops Q rest a' w → wpList P ops Q (l ++ rest) a w
  | [], a, h, hw => by
    simp only [builds, Option.some.injEq] at h
    subst h
    exact hw
  | o :: r, a, h, hw => by
    simp only [builds] at h
    split at h
    · rename_i t parts hg ho
      cases hb : P.built t (parts.map fun (i, x) => (i, a.eval x)).toList with
      | none => rw [hb] at h; cases h
      | some cells =>
        rw [hb] at h
        refine wpList_build hg t parts ho (by rw [hb]; rfl) ?_
        rw [hb]
        exact wpList_builds r _ h hw
    · cases h

theorem wp_alloc {P : Program} {o : Oper} {a : Act} {w : World} {K : Act → World → Prop} {Q : Exit → Act → World → Prop} (t : TypeId) (cs : Array Value) (ho : o.op = .alloc t)
    (hz : (zeroValue t).run P w = .ok (.agg cs) w) (h : K (a.put o.dst (.pointer (some ⟨w.heap.size, 0, none⟩))) (w.alloc (.cells cs t))) : o.wp P a w K Q := by
  unfold Oper.wp execOp
  simp only [ho, Sem.run_bind, Instr.alloc, hz, Result.andThen_ok]
  exact h

/-- the operations of the second region of a body, and of the first -/
def opsOf : Option Code → List Oper
  | some (.seq _ (.seq (.region _ ops _) _)) => ops.toList
  | _ => []
def headOf : Option Code → List Oper
  | some (.seq (.region _ ops _) _) => ops.toList
  | _ => []
def lastOf (l : List Oper) : List Oper := l.drop 62

theorem ent_body : Try.f31.body = some (.seq (.region 0 (headOf Try.f31.body).toArray false) (.seq (.region 1 (opsOf Try.f31.body).toArray false) .ret)) := by kernel_rfl
def entAct (n : Nat) : Act := ({ tmps := Array.replicate 63 undef, defers := [] } : Act).put (some 0) (.pointer (some ⟨n, 0, none⟩))
theorem ent_builds (n : Nat) : builds Try.prog ((opsOf Try.f31.body).take 62) (entAct n) = some ((builds Try.prog ((opsOf Try.f31.body).take 62) (entAct n)).getD ⟨#[], []⟩) := by kernel_rfl
theorem ent_at0 (n : Nat) : (((builds Try.prog ((opsOf Try.f31.body).take 62) (entAct n)).getD ⟨#[], []⟩)).eval (.tmp 0) = .pointer (some ⟨n, 0, none⟩) := by kernel_rfl
theorem ent_at62 (n : Nat) : (((builds Try.prog ((opsOf Try.f31.body).take 62) (entAct n)).getD ⟨#[], []⟩)).eval (.tmp 62) = .agg Cx.ents := by kernel_rfl
theorem ent_nodefer (n : Nat) : (((builds Try.prog ((opsOf Try.f31.body).take 62) (entAct n)).getD ⟨#[], []⟩)).defers = [] := by kernel_rfl
theorem ent_head : ∃ o, headOf Try.f31.body = [o] ∧ o.op = .alloc 52 ∧ o.guard = none ∧ o.dst = some 0 := ⟨(headOf Try.f31.body).headD default, by kernel_rfl, by kernel_rfl, by kernel_rfl, by kernel_rfl⟩
theorem ent_last : ∃ o, (opsOf Try.f31.body).drop 62 = [o] ∧ o.op = .store 52 (.tmp 0) (.tmp 62) ∧ o.guard = none ∧ o.dst = none := ⟨((opsOf Try.f31.body).drop 62).headD default, by kernel_rfl, by kernel_rfl, by kernel_rfl, by kernel_rfl⟩
theorem ents_size : Cx.ents.size = 183 := by kernel_rfl
theorem zeros_size : Cx.zeros.size = 183 := by kernel_rfl
theorem ents_one : Cx.ents.all (·.oneCell') = true := by kernel_rfl
theorem ents_info : (Try.prog.info? 52).map (·.size) = some 183 := by kernel_rfl
theorem ent_results : Try.f31.results = #[.cell 0 52] := by kernel_rfl

set_option maxHeartbeats 1000000 in
theorem entries_any (w : World) :
    Calls Try.prog 31 #[] w fun e w' => e = .returned (.agg Cx.ents) ∧ w' = w.alloc (.cells Cx.ents 52) := by
  refine calls_of_wp Try.func31 ent_body ?_
  refine wp_seq ?_
  refine wp_region_lit ?_
  obtain ⟨o, ho, hop, hgd, hdst⟩ := ent_head
  rw [ho]
  refine wpList_plain hgd fun K hK => ?_
  refine wp_alloc 52 Cx.zeros hop (zero_ents w) ?_
  refine hK _ _ ?_
  refine wpList_nil ?_
  show Code.wp _ _ _ _ _
  refine wp_seq ?_
  refine wp_region_lit ?_
  rw [← List.take_append_drop 62 (opsOf Try.f31.body)]
  rw [hdst]
  have e0 : (({ tmps := #[] ++ Array.replicate (Try.f31.ntmps - (#[] : Array Value).size) undef, defers := [] } : Act).put (some 0) (.pointer (some ⟨w.heap.size, 0, none⟩))) = entAct w.heap.size := by kernel_rfl
  rw [e0]
  refine wpList_builds _ _ (ent_builds w.heap.size) ?_
  generalize ha : (builds Try.prog ((opsOf Try.f31.body).take 62) (entAct w.heap.size)).getD ⟨#[], []⟩ = a'
  have h0 := ent_at0 w.heap.size
  have h62 := ent_at62 w.heap.size
  have hnd := ent_nodefer w.heap.size
  rw [ha] at h0 h62 hnd
  obtain ⟨o2, ho2, hop2, hgd2, hdst2⟩ := ent_last
  rw [ho2]
  refine wpList_plain hgd2 fun K hK => ?_
  refine wp_store_row 52 _ _ hop2 w.heap.size Cx.ents h0 h62 52 Cx.zeros (heap_alloc_last w _) (by rw [ents_info, ents_size]) (by rw [zeros_size, ents_size]) ents_one ?_
  refine hK _ _ ?_
  refine wpList_nil ?_
  rw [World.setRow_alloc_new, hdst2]
  show Code.wp _ _ _ _ _
  refine wp_ret ?_
  refine ⟨hnd, .agg Cx.ents, ?_, rfl, rfl⟩
  have hl := run_loadVar_new (P := Try.prog) w 52 Cx.ents 61 _ Try.underlying52 (by rw [ents_info, ents_size])
  have h0' : a'.tmps[0]?.getD undef = .pointer (some ⟨w.heap.size, 0, none⟩) := by rw [← Array.getD_eq_getD_getElem?]; exact h0
  simp [results, Act.put, h0', asAddr, hl]

end Go.Proofs.Ytdoglpaggmdnpaa
