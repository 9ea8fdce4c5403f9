/- Contract of the law's own parts. -/
import Derived.Test.YtbdmlenapccdnaaDoorPq
import Derived.Laws.AppendOwn
import Derived.Laws.IdiomStrings
import Derived.OwnWalk
namespace Go.Proofs.YtbdmlenapccdnaaDoor
open Go.RowKit

theorem infoStr : (Tryd.prog.info? 9).map (fun i => (i.zero, i.size, i.bytes)) = some (some (.string ⟨#[]⟩), 1, 16) := by kernel_rfl
/-- the parts that are done, and the one under way -/
def pst : List UInt8 → List (List UInt8) × List UInt8
  | l => ((sp l).dropLast, ((sp l).getLast?).getD [])
theorem str_new (w : World) (l : List Value) (t : TypeId) : ∀ j u, l[j]? = some u → (w.alloc (.cells l.toArray t)).cell? ((⟨w.heap.size, 0, none⟩ : Addr).add j) = some u := by
  intro j u hu
  have : (⟨w.heap.size, 0, none⟩ : Addr).add j = ⟨w.heap.size, j, none⟩ := by unfold Addr.add; split <;> simp_all
  rw [this, World.cell?_alloc_new]
  simpa using hu
theorem sp_snoc (l : List UInt8) (c : UInt8) : sp (l ++ [c]) = if c = 47 then sp l ++ [[]] else (sp l).dropLast ++ [((sp l).getLast?).getD [] ++ [c]] := by
  by_cases hc : c = 47
  · subst hc
    rw [if_pos rfl, sp_app]
    rfl
  · rw [if_neg hc]
    induction l with
    | nil => simp [sp, hc]
    | cons d l ih =>
      by_cases hd : d = 47
      · subst hd
        rw [List.cons_append, sp, if_pos rfl, ih, sp, if_pos rfl]
        cases e : sp l with
        | nil => exact absurd e (sp_ne l)
        | cons h t => simp
      · obtain ⟨h, t, e1, e2⟩ := sp_cons hd l
        rw [List.cons_append, sp, if_neg hd, ih, e2, e1]
        cases t with
        | nil => simp
        | cons h2 t2 => simp
theorem sp_last (l : List UInt8) : (sp l).dropLast ++ [((sp l).getLast?).getD []] = sp l := by
  cases e : sp l with
  | nil => exact absurd e (sp_ne l)
  | cons h t =>
    rw [List.getLast?_eq_some_getLast (by simp)]
    exact List.dropLast_concat_getLast (by simp)
theorem sp_len : ∀ l, (sp l).length ≤ l.length + 1
  | [] => by simp [sp]
  | c :: l => by
    have ih := sp_len l
    by_cases hc : c = 47
    · subst hc
      rw [sp, if_pos rfl]
      simp
      omega
    · obtain ⟨h, t, e1, e2⟩ := sp_cons hc l
      rw [e2]
      rw [e1] at ih
      simp at ih ⊢
      omega
theorem sp_mem : ∀ l p, p ∈ sp l → p.length ≤ l.length
  | [], p, h => by simp [sp] at h; simp [h]
  | c :: l, p, h => by
    by_cases hc : c = 47
    · subst hc
      rw [sp, if_pos rfl] at h
      rcases List.mem_cons.1 h with h | h
      · simp [h]
      · have := sp_mem l p h
        simp
        omega
    · obtain ⟨x, t, e1, e2⟩ := sp_cons hc l
      rw [e2] at h
      have ih := sp_mem l
      rw [e1] at ih
      rcases List.mem_cons.1 h with h | h
      · have := ih x (by simp)
        rw [h]
        simp
        omega
      · have := ih p (by simp [h])
        simp
        omega
def toV (l : List UInt8) : Value := .string ⟨l.toArray⟩

set_option maxRecDepth 100000 in
set_option maxHeartbeats 600000 in
theorem parts_any (s : ByteArray) (w : World) (hs : s.size ≤ 1000000) : Calls Tryd.prog 9 #[.string s] w fun e w' => ∃ v, e = .returned v ∧ w'.ownsRow w.heap.size 9 1 v (sp s.data.toList).length ((sp s.data.toList).map toV) ∧ Below w.heap.size w w' := by
  obtain ⟨i0, hi, hz0, hz1, hz2⟩ := info_parts infoStr
  go_enter Tryd.func9, Tryd.ntmps9
  go_wp2
  go_loopw [3, 4, 5] (fun v nv iv wr => ∃ i : Nat, i ≤ s.size ∧ iv = .int .i64 i ∧ nv = toV (((sp (s.data.toList.take i)).getLast?).getD []) ∧ wr.ownsRow w.heap.size 9 1 v (sp (s.data.toList.take i)).dropLast.length ((sp (s.data.toList.take i)).dropLast.map toV) ∧ Below w.heap.size w wr) (fun _ _ iv _ => s.size - (intOf iv).toNat)
  case atStart => exact ⟨0, by omega, rfl, rfl, World.ownsRow_lit w #[] 0 (Nat.le_refl _) (by decide) rfl, (Below.refl _ _).alloc (Nat.le_refl _) _⟩
  case round =>
    obtain ⟨i, hil, rfl, rfl, hown, hB⟩ := hrel
    have htk : (s.data.toList.take i).length = i := by
      rw [List.length_take, Array.length_toList]
      exact Nat.min_eq_left hil
    have hlen : (sp (s.data.toList.take i)).dropLast.length ≤ i + 1 := by
      have := sp_len (s.data.toList.take i)
      rw [List.length_dropLast]
      omega
    have hnl : ((sp (s.data.toList.take i)).getLast?.getD []).length ≤ i := by
      have hm : (sp (s.data.toList.take i)).getLast?.getD [] ∈ (sp (s.data.toList.take i)).dropLast ++ [(sp (s.data.toList.take i)).getLast?.getD []] := by simp
      rw [sp_last] at hm
      have := sp_mem _ _ hm
      rwa [htk] at this
    have hT : i = s.size → sp s.data.toList = sp (s.data.toList.take i) := by
      intro e
      rw [List.take_of_length_le (by rw [Array.length_toList, e]; exact Nat.le_refl _)]
    have hst : ∀ c, s.data.toList[i]? = some c → sp (s.data.toList.take (i + 1)) = if c = 47 then sp (s.data.toList.take i) ++ [[]] else (sp (s.data.toList.take i)).dropLast ++ [((sp (s.data.toList.take i)).getLast?).getD [] ++ [c]] := by
      intro c hc
      rw [takeSucc hc, sp_snoc]
    have hlast := sp_last (s.data.toList.take i)
    generalize sp (s.data.toList.take i) = T at *
    obtain ⟨D, hD⟩ : ∃ D, T.dropLast = D := ⟨_, rfl⟩
    obtain ⟨N, hN⟩ : ∃ N, (T.getLast?).getD [] = N := ⟨_, rfl⟩
    rw [hD] at hown hlen hst hlast
    rw [hN] at hst hlast hnl
    rw [hN]
    subst hlast
    have HST := Lib.hid hst
    have HT := Lib.hid hT
    clear hst hD hN hT
    unfold toV
    by_cases hlt : i < s.size
    · have hl1 : decide ((i : Int) < (s.size : Int)) = true := by simp; omega
      have hi0 : (0 : Int) ≤ (i : Int) := by omega
      have hi1 : (i : Int) < (s.size : Int) := by omega
      have hci : s.data.toList[i]? = some (s[i]'hlt) := by
        rw [Array.getElem?_toList, Array.getElem?_eq_getElem (show i < s.data.size from hlt)]
        rfl
      have hs1 := HST.out _ hci
      have hbs := hB.size
      by_cases hc : (s[i]'hlt) = 47
      · have hd : (((s[i]'hlt).toNat : Int) == 47) = true := by rw [hc]; rfl
        rw [if_pos hc] at hs1
        have HS1 := Lib.hid hs1
        clear hs1 hc hci
        go_wp2_with (at_builtin; refine wpList_append_own _ rfl _ _ 23 rfl w.heap.size 9 i0 (.string ⟨#[]⟩) 1 16 Tryd.underlying23 hi hz0 hz1 hz2 rfl (by decide) u3 _ _ rfl (hown.alloc _) ⟨wr.heap.size, 0, none⟩ 1 1 [.string ⟨N.toArray⟩] rfl rfl (str_new wr _ _) (by simp [Value.oneCell']) (by unfold maxLen; omega) (by omega) (by simp; omega) ?_; intro v2 w2 hown2 hg2 hn2; have hB2 : Below w.heap.size w w2 := (hB.alloc hB.size _).grown hg2 (by simp; omega) (fun k e => (hown.lt k e).1); clear hn2 hg2)
        go_roundw
        case rel =>
          refine ⟨i + 1, hlt, by go_num, ?_, ?_, hB2⟩
          · rw [HS1.out]; simp
          · rw [HS1.out]
            have e1 : (D ++ [N] ++ [[]]).dropLast = D ++ [N] := by simp
            rw [e1, List.map_append, List.length_append]
            exact hown2
        case measure => simp [intOf]; omega
      · have hd : (((s[i]'hlt).toNat : Int) == 47) = false := by
          simp
          intro e
          apply hc
          have : (s[i]'hlt).toNat = 47 := by omega
          exact UInt8.toNat_inj.1 this
        rw [if_neg hc] at hs1
        have HS1 := Lib.hid hs1
        have hadd : (⟨N.toArray⟩ : ByteArray) ++ s.extract i (i + 1) = ⟨(N ++ [s[i]'hlt]).toArray⟩ := by
          apply ByteArray.ext
          apply Array.toList_inj.1
          rw [ByteArray.data_append, Array.toList_append, ByteArray.data_extract, Array.toList_extract, List.extract_eq_take_drop]
          show N ++ _ = N ++ [s[i]'hlt]
          congr 1
          have : s.data.toList.drop i = (s[i]'hlt) :: s.data.toList.drop (i + 1) := List.drop_eq_getElem_cons (by simpa using hlt)
          rw [this, show i + 1 - i = 1 by omega]
          rfl
        have hsz : (s.extract i (i + 1)).size ≤ 1 := by simp [ByteArray.size_extract]; omega
        have hsn1 : (⟨N.toArray⟩ : ByteArray).size = N.length := by simp [ByteArray.size]
        have hsum : (⟨N.toArray⟩ : ByteArray).size + (s.extract i (i + 1)).size ≤ 9223372036854775807 := by omega
        have kA := fun (w : World) => run_string_add_sum (P := Tryd.prog) w ⟨N.toArray⟩ (s.extract i (i + 1)) hsum
        have hsn : ¬ (9223372036854775807 < (⟨N.toArray⟩ : ByteArray).size + (s.extract i (i + 1)).size) := by omega
        have HADD := Lib.hid hadd
        have hi2 : (i : Int) ≤ (i : Int) + 1 := by omega
        have hi3 : (i : Int) + 1 ≤ (s.size : Int) := by omega
        clear hs1 hc hci hadd hsz hsn1
        go_wp2
        go_roundw
        case rel =>
          refine ⟨i + 1, hlt, by go_num, ?_, ?_, hB⟩
          · rw [HS1.out]
            simp only [List.getLast?_append, List.getLast?_singleton, Option.some_or, Option.getD_some]
            exact congrArg Value.string HADD.out
          · rw [HS1.out, List.dropLast_concat]
            exact hown
        case measure => simp [intOf]; omega
    · have hl1 : decide ((i : Int) < (s.size : Int)) = false := by simp; omega
      obtain rfl : i = s.size := by omega
      have hbs := hB.size
      go_wp2_with (at_builtin; refine wpList_append_own _ rfl _ _ 23 rfl w.heap.size 9 i0 (.string ⟨#[]⟩) 1 16 Tryd.underlying23 hi hz0 hz1 hz2 rfl (by decide) u3 _ _ rfl (hown.alloc _) ⟨wr.heap.size, 0, none⟩ 1 1 [.string ⟨N.toArray⟩] rfl rfl (str_new wr _ _) (by simp [Value.oneCell']) (by unfold maxLen; omega) (by omega) (by simp; omega) ?_; intro v2 w2 hown2 hg2 hn2; have hB2 : Below w.heap.size w w2 := (hB.alloc hB.size _).grown hg2 (by simp; omega) (fun k e => (hown.lt k e).1); clear hn2 hg2)
      go_ret
      refine ⟨v2, rfl, ?_, hB2⟩
      rw [HT.out trivial, List.map_append, List.length_append]
      exact hown2

end Go.Proofs.YtbdmlenapccdnaaDoor
