/- Imply of a stack; a region in which calls make memory, walked quietly. -/
import Derived.Test.YtfkbjniodomdjaaSx
namespace Go.Proofs.Ytfkbjniodomdjaa
open Go.RowKit Go.Shelf Go.Lib

/-- a world in which nothing old has turned -/
structure Aft (w : World) where
  aw : World
  lt : Below w.heap.size w aw
instance (w : World) : Nonempty (Aft w) := ⟨⟨w, Below.refl _ w⟩⟩
theorem wp_region_after {P : Program} {id : Nat} {Q : Exit → Act → World → Prop} {a : Act} {w : World} {l : List Oper} (hm : P.follows .mixedOrders = true) (hB : Region.lexB .any l.toArray = true)
    (h : wpQuiet P l.toArray (fun w' => ∃ x : Aft w, w' = x.aw) (fun a' => ∀ w', (∃ x : Aft w, w' = x.aw) → Q .normal a' w') l a) : (Code.region id l.toArray true).wp P Q a w :=
  wp_region_quiet (C := fun w' => ∃ x : Aft w, w' = x.aw) hm hB ⟨⟨w.drew, (Below.refl _ w).drew⟩, rfl⟩ (by simpa using h)
section
variable {base D T : Nat} {v va : Value} {qk : Bool} {ns : List Nd} {xs ys : List Int} {A : Option Addr} {cap : Nat} {W X X' : World} {vk : Value}
set_option maxRecDepth 100000 in
set_option maxHeartbeats 4000000 in
theorem imply_any (but : ByteArray) (all : Bool) (hd : DocM base D v false ns W) (hst : StM T (.pointer (some ⟨D, 0, none⟩)) va xs W) (hap : ∀ k, DB D v ns k → ¬ ST T va k) (hl : xs.length ≤ 1000000) :
    Calls Try.prog 35 #[.pointer (some ⟨T, 0, none⟩), .string but, .bool all] W fun e W' => e = .returned (.tuple #[]) ∧ UPost base D T v va ns (cutB (fun n => !(gI ns but all n)) xs.reverse).reverse W W' := by
  have HT := Lib.hid (fun (vk : Value) (ys ys' : List Int) (X X' : World) (h : UN base D T v va ns [] none W vk ys X) (hp : SPost T (.pointer (some ⟨D, 0, none⟩)) vk ys' X X') => h.turn hd hap (.inl rfl) (fun _ e => by cases e) hp)
  have H0 : Hid (UN base D T v va ns [] none W va xs W) := Lib.hid ⟨hd, hst, Frm.refl _ _, fun k hk => .inl hk, .inl rfl⟩
  clear hd hst hap
  go_enter Try.func35, Try.ntmps35
  go_wp2
  go_loopw [] (fun wr => ∃ (vk : Value) (ys : List Int), ys.length ≤ xs.length ∧ Hid (UN base D T v va ns [] none W vk ys wr) ∧ Hid (cutB (fun n => !(gI ns but all n)) ys.reverse = cutB (fun n => !(gI ns but all n)) xs.reverse)) (fun wr => (stLen wr T))
  case atStart => exact ⟨va, xs, Nat.le_refl _, H0, Lib.hid rfl⟩
  case round =>
    obtain ⟨vk, ys, hle, HU, HC⟩ := hrel
    have KN := Lib.hid (nodes_any wr.drew (HU.out.drewN 1).st)
    obtain ⟨Ak, ck, rfl, _, _, _⟩ := HU.out.st.rd.form
    have c0 := HU.out.st.cells.1
    by_cases hy : ys = []
    · subst hy
      have hc := HC.out
      rw [show cutB (fun n => !(gI ns but all n)) ([] : List Int).reverse = [] from rfl] at hc
      have HCC := Lib.hid hc
      have HUQ := Lib.hid (fun q => (HU.out.drewN q).post)
      have KNQ := Lib.hid (fun q => nodes_any (wr.drewN q) (HU.out.drewN q).st)
      simp only [List.length_nil] at KNQ
      clear hc HC
      go_wp2_with fail
      go_quiet (first | (go_at_call 68; exact Calls.quiet_of_same (KNQ.out _)))
      go_wp2
      go_end0
      rw [← HCC.out]
      exact ⟨rfl, HUQ.out _⟩
    · obtain ⟨us, y, rfl⟩ := snoc_of hy
      have hcu : cutB (fun n => !(gI ns but all n)) (us ++ [y]).reverse = if gI ns but all y then cutB (fun n => !(gI ns but all n)) us.reverse else y :: us.reverse := by
        rw [List.reverse_append]
        show (if (!(gI ns but all y)) = true then _ else _) = _
        cases gI ns but all y <;> rfl
      have HCU := Lib.hid (hcu.symm.trans HC.out)
      have HLEN := Lib.hid (st_len HU.out.st)
      have HXU := Lib.hid (fun (x : Aft wr) => HU.out.below x.lt)
      have hcx : ∀ x : Aft wr, x.aw.cell? ⟨T, 0, none⟩ = some (.pointer (some ⟨D, 0, none⟩)) := fun x => (HXU.out x).st.cells.1
      have KNx := fun (x : Aft wr) => nodes_any x.aw (HXU.out x).st
      have KTx := fun (x : Aft wr) => top_any x.aw (HXU.out x).st (by omega)
      rw [topI_snoc] at KTx
      have KMx := fun (x : Aft wr) => imp_any y all x.aw (HXU.out x).doc
      have KNm0 := fun (x : Aft wr) => name_any y x.aw (HXU.out x).doc
      have KP := fun (x : Aft wr) => pop_any x.aw (HXU.out x).st (by omega)
      rw [topI_snoc, List.dropLast_concat] at KP
      have HKP := Lib.hid KP
      have HKT := Lib.hid KTx
      have HLE := Lib.hid (show us.length + 1 ≤ xs.length by simpa using hle)
      rw [show (us ++ [y]).length = us.length + 1 by simp] at KNx
      obtain ⟨m, hm⟩ : ∃ m, us.length = m := ⟨_, rfl⟩
      rw [hm] at KNx HLE
      have HM := Lib.hid hm
      have HKN := Lib.hid KNx
      have hm6 : m ≤ 1000000 := by have := HLE.out; omega
      have d0 : decide ((0 : Int) < (m : Int) + 1) = true := decide_eq_true (by omega)
      clear KP hcu HC hy hm KTx KNx hle
      have fin : ∀ X, UN base D T v va ns [] none W (.slice Ak (us ++ [y]).length ck) (us ++ [y]) X → gI ns but all y = false → UPost base D T v va ns (cutB (fun n => !(gI ns but all n)) xs.reverse).reverse W X := by
        intro X h hg
        rw [← HCU.out, hg, if_neg (by decide), List.reverse_cons, List.reverse_reverse]
        exact h.post
      have HFIN := Lib.hid fin
      clear fin
      cases hi : impN ns y all with
      | false =>
        rw [hi] at KMx
        have HKM := Lib.hid KMx
        have hg : gI ns but all y = false := by unfold gI; rw [hi]; rfl
        have HG := Lib.hid hg
        clear hi hg KMx KNm0
        go_wp2_with fail
        refine wp_region_after (by kernel_rfl) (by kernel_rfl) ?_
        repeat (go_big_quiet_step (first
          | (rename_i x; go_at_call 68; exact (HKN.out x).mono (fun e w' h => ⟨h.1, x, h.2⟩))
          | (rename_i x; go_at_call 70; exact (HKT.out x).mono (fun e w' h => ⟨h.1, x, h.2⟩))
          | (rename_i x; go_at_call 71; exact (HKM.out x).mono (fun e w' h => ⟨h.1, ⟨w', x.lt.trans (h.2.mono x.lt.size)⟩, rfl⟩))))
        refine wpQuiet_nil ?_
        rintro _ ⟨x, rfl⟩
        go_wp2
        go_end0
        exact ⟨rfl, HFIN.out _ (HXU.out x) HG.out⟩
      | true =>
        rw [hi] at KMx
        have HKM := Lib.hid KMx
        obtain ⟨nv, hnv⟩ : ∃ nv, atN ns y nmN ⟨#[]⟩ = nv := ⟨_, rfl⟩
        rw [hnv] at KNm0
        have HKNm := Lib.hid KNm0
        have hg : gI ns but all y = !(sm nv but) := by unfold gI; rw [hi, hnv]; rfl
        clear hi KMx hnv KNm0
        cases hs : (nv.toList == but.toList) with
        | true =>
          have hs2 : (nv.toList != but.toList) = false := by unfold bne; rw [hs]; rfl
          have HG := Lib.hid (show gI ns but all y = false by rw [hg]; unfold sm; rw [hs]; rfl)
          clear hg
          go_wp2_with fail
          refine wp_region_after (by kernel_rfl) (by kernel_rfl) ?_
          repeat (go_big_quiet_step (first
            | (rename_i x; go_at_call 68; exact (HKN.out x).mono (fun e w' h => ⟨h.1, x, h.2⟩))
            | (rename_i x; go_at_call 70; exact (HKT.out x).mono (fun e w' h => ⟨h.1, x, h.2⟩))
            | (rename_i x; go_at_call 40; exact (HKNm.out x).mono (fun e w' h => ⟨h.1, x, h.2⟩))
            | (rename_i x; go_at_call 71; exact (HKM.out x).mono (fun e w' h => ⟨h.1, ⟨w', x.lt.trans (h.2.mono x.lt.size)⟩, rfl⟩))))
          refine wpQuiet_nil ?_
          rintro _ ⟨x, rfl⟩
          go_wp2
          go_end0
          exact ⟨rfl, HFIN.out _ (HXU.out x) HG.out⟩
        | false =>
          have hs2 : (nv.toList != but.toList) = true := by unfold bne; rw [hs]; rfl
          have HG := Lib.hid (show gI ns but all y = true by rw [hg]; unfold sm; rw [hs]; rfl)
          clear hg
          go_wp2_with fail
          refine wp_region_after (by kernel_rfl) (by kernel_rfl) ?_
          repeat (go_big_quiet_step (first
            | (rename_i x; go_at_call 68; exact (HKN.out x).mono (fun e w' h => ⟨h.1, x, h.2⟩))
            | (rename_i x; go_at_call 70; exact (HKT.out x).mono (fun e w' h => ⟨h.1, x, h.2⟩))
            | (rename_i x; go_at_call 40; exact (HKNm.out x).mono (fun e w' h => ⟨h.1, x, h.2⟩))
            | (rename_i x; go_at_call 71; exact (HKM.out x).mono (fun e w' h => ⟨h.1, ⟨w', x.lt.trans (h.2.mono x.lt.size)⟩, rfl⟩))))
          refine wpQuiet_nil ?_
          rintro _ ⟨x, rfl⟩
          go_wp2_with fail
          refine (HKP.out x).mono ?_
          rintro e w2 ⟨rfl, hp⟩
          obtain ⟨vk2, hU2⟩ := HT.out _ _ _ _ _ (HXU.out x) hp
          have HU2 := Lib.hid hU2
          clear hp hU2
          go_wp2
          go_roundw
          case rel =>
            refine ⟨vk2, us, by have := HLE.out; have := HM.out; omega, HU2, Lib.hid ?_⟩
            have := HCU.out
            rw [HG.out, if_pos rfl] at this
            exact this
          case measure =>
            have h1 := HLEN.out
            have h2 := st_len HU2.out.st
            rw [List.length_append, List.length_cons, List.length_nil] at h1
            omega
end
end Go.Proofs.Ytfkbjniodomdjaa
