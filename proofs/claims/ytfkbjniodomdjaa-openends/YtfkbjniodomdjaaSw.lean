/- Until and Back of a stack. -/
import Derived.Test.YtfkbjniodomdjaaSc
import Derived.Test.YtfkbjniodomdjaaEh
import Derived.Deep.RegionHeld3
import Derived.Deep.RegionLaw
import Derived.BigRegion
import Derived.Deep.QuietTactic
import Derived.BigQuiet
namespace Go.Proofs.Ytfkbjniodomdjaa
open Go.RowKit Go.Shelf Go.Lib

/-- the last ones go, up to one that is asked for, this too: the list from the innermost one on -/
def cutU (f : Int → Bool) : List Int → List Int
  | [] => []
  | x :: r => if f x then r else cutU f r
/-- the last ones go, until one is asked for -/
def cutB (f : Int → Bool) : List Int → List Int
  | [] => []
  | x :: r => if f x then x :: r else cutB f r
/-- how long the list of a stack is -/
def stLen (W : World) (T : Nat) : Nat := match W.cell? ⟨T, 1, none⟩ with
  | some (.slice _ n _) => n
  | _ => 0
/-- a stack under way, its tree beside it -/
structure UN (base D T : Nat) (v va : Value) (ns : List Nd) (zs : List ByteArray) (A : Option Addr) (W : World) (vk : Value) (ys : List Int) (X : World) : Prop where
  doc : DocM base D v false ns X
  st : StM T (.pointer (some ⟨D, 0, none⟩)) vk ys X
  fr : Frm (ST T va) W X
  sub : ∀ k, ST T vk k → ST T va k ∨ W.heap.size ≤ k
  rd : RdT X A zs
section
variable {base D T : Nat} {v va : Value} {ns : List Nd} {xs ys : List Int} {zs : List ByteArray} {A : Option Addr} {cap : Nat} {W X X' : World} {vk : Value}
theorem RdT.frm {S : Nat → Prop} (h : RdT W A zs) (hf : Frm S W X) (hA : ∀ ad, A = some ad → ¬ S ad.block) : RdT X A zs := by
  rcases h with h | ⟨b, off, rfl, hl, h⟩
  · exact .inl h
  · exact .inr ⟨b, off, rfl, Nat.lt_of_lt_of_le hl hf.size, fun i x hi => (hf.cell (p := ⟨b, off + i, none⟩) hl (show ¬ S b from hA ⟨b, off, none⟩ rfl)).trans (h i x hi)⟩
/-- one goes -/
theorem UN.turn (h : UN base D T v va ns zs A W vk ys X) (hd : DocM base D v false ns W) (hap : ∀ k, DB D v ns k → ¬ ST T va k) (hr : RdT W A zs) (hA : ∀ ad, A = some ad → ¬ ST T va ad.block) {ys' : List Int} (hp : SPost T (.pointer (some ⟨D, 0, none⟩)) vk ys' X X') : ∃ vk', UN base D T v va ns zs A W vk' ys' X' := by
  obtain ⟨vk', hs, hf, hn⟩ := hp
  have hfr : Frm (ST T va) W X' := h.fr.trans' hf h.sub
  refine ⟨vk', hd.keep hfr hap, hs, hfr, ?_, hr.frm hfr hA⟩
  rintro k (rfl | e)
  · exact .inl (.inl rfl)
  · rcases hn k e with h1 | h1
    · exact h.sub k (.inr h1)
    · exact .inr (Nat.le_trans h.fr.size h1)
theorem UN.drewN (h : UN base D T v va ns zs A W vk ys X) (q : Nat) : UN base D T v va ns zs A W vk ys (X.drewN q) :=
  have hb := below_drewN (Below.refl X.heap.size X) q
  ⟨h.doc.below hb, h.st.below hb, h.fr.trans (Frm.drewN _ X q), h.sub, h.rd.below hb⟩
theorem st_len {pd : Value} (h : StM T pd vk ys X) : stLen X T = ys.length := by
  obtain ⟨A, c, rfl, _⟩ := h.rd.form
  unfold stLen
  rw [h.cells.2.1]
/-- what such a call leaves -/
def UPost (base D T : Nat) (v va : Value) (ns : List Nd) (zs' : List Int) (W W' : World) : Prop :=
  ∃ vk, DocM base D v false ns W' ∧ StM T (.pointer (some ⟨D, 0, none⟩)) vk zs' W' ∧ Frm (ST T va) W W' ∧ ∀ k, ST T vk k → ST T va k ∨ W.heap.size ≤ k
theorem UN.post (h : UN base D T v va ns zs A W vk ys X) : UPost base D T v va ns ys W X := ⟨vk, h.doc, h.st, h.fr, h.sub⟩
set_option maxRecDepth 100000 in
set_option maxHeartbeats 2000000 in
theorem until_any (hd : DocM base D v false ns W) (hst : StM T (.pointer (some ⟨D, 0, none⟩)) va xs W) (hap : ∀ k, DB D v ns k → ¬ ST T va k) (hr : RdT W A zs) (hA : ∀ ad, A = some ad → ¬ ST T va ad.block) (hz : zs.length ≤ 1000000) (hl : xs.length ≤ 1000000) :
    Calls Try.prog 32 #[.pointer (some ⟨T, 0, none⟩), .slice A zs.length cap] W fun e W' => e = .returned (.tuple #[]) ∧ UPost base D T v va ns (cutU (fun n => isN ns n zs) xs.reverse).reverse W W' := by
  have HT := Lib.hid (fun (vk : Value) (ys ys' : List Int) (X X' : World) (h : UN base D T v va ns zs A W vk ys X) (hp : SPost T (.pointer (some ⟨D, 0, none⟩)) vk ys' X X') => h.turn hd hap hr hA hp)
  have H0 : Hid (UN base D T v va ns zs A W va xs W) := Lib.hid ⟨hd, hst, Frm.refl _ _, fun k hk => .inl hk, hr⟩
  clear hd hst hap hr hA
  go_enter Try.func32, Try.ntmps32
  go_wp2
  go_loopw [] (fun wr => ∃ (vk : Value) (ys : List Int), ys.length ≤ xs.length ∧ Hid (UN base D T v va ns zs A W vk ys wr) ∧ Hid (cutU (fun n => isN ns n zs) ys.reverse = cutU (fun n => isN ns n zs) xs.reverse)) (fun wr => (stLen wr T))
  case atStart => exact ⟨va, xs, Nat.le_refl _, H0, Lib.hid rfl⟩
  case round =>
    obtain ⟨vk, ys, hle, HU, HC⟩ := hrel
    have KN := Lib.hid (nodes_any wr HU.out.st)
    obtain ⟨Ak, ck, rfl, _, _, _⟩ := HU.out.st.rd.form
    by_cases hy : ys = []
    · subst hy
      have hc := HC.out
      rw [show cutU (fun n => isN ns n zs) ([] : List Int).reverse = [] from rfl] at hc
      have HCC := Lib.hid hc
      clear hc HC
      go_wp2_with fail
      refine KN.out.mono ?_
      rintro e w1 ⟨rfl, rfl⟩
      go_wp2
      go_end0
      rw [← HCC.out]
      exact ⟨rfl, HU.out.post⟩
    · obtain ⟨us, y, rfl⟩ := snoc_of hy
      have hcu : cutU (fun n => isN ns n zs) (us ++ [y]).reverse = if isN ns y zs then us.reverse else cutU (fun n => isN ns n zs) us.reverse := by
        rw [List.reverse_append]
        rfl
      have HUD := Lib.hid (HU.out.drewN 1)
      have KP := pop_any wr.drew HUD.out.st (by omega)
      rw [topI_snoc, List.dropLast_concat] at KP
      have HKP := Lib.hid KP
      have HCU := Lib.hid (hcu.symm.trans HC.out)
      have c0 := HU.out.st.cells.1
      have HLEN := Lib.hid (st_len HU.out.st)
      rw [List.length_append, List.length_cons, List.length_nil] at hle KN
      have HLE := Lib.hid hle
      obtain ⟨m, hm⟩ : ∃ m, us.length = m := ⟨_, rfl⟩
      rw [hm] at KN hle
      have HM := Lib.hid hm
      have d0 : decide ((0 : Int) < (m : Int) + 1) = true := decide_eq_true (by omega)
      clear KP hcu HC hy hm
      cases hf : isN ns y zs with
      | true =>
        rw [hf, if_pos rfl] at HCU
        have KI := Lib.hid (fun (X : World) (vk : Value) (h : UN base D T v va ns zs A W vk us X) => by have := is_any y zs A cap X h.doc h.rd hz; rw [hf] at this; exact this)
        clear hf
        go_wp2_with fail
        refine KN.out.mono ?_
        rintro e w1 ⟨rfl, rfl⟩
        go_wp2_with fail
        go_region_law (first
          | (go_simp; go_at_call 69; refine HKP.out.mono ?_; rintro e w2 ⟨rfl, hp⟩; obtain ⟨vk2, hU2⟩ := HT.out _ _ _ _ _ HUD.out hp; have e0 := hU2.st.cells.1; have HU2 := Lib.hid hU2; clear hp hU2)
          | (go_simp; go_at_call 41; refine (KI.out _ _ HU2.out).mono ?_; rintro e w3 ⟨rfl, rfl⟩))
        all_goals
          go_wp2
          refine bodyPost_ret (results_none rfl _ _ _) rfl ?_
          rw [← HCU.out, List.reverse_reverse]
          exact ⟨rfl, HU2.out.post⟩
      | false =>
        rw [hf, if_neg (by decide)] at HCU
        have KI := Lib.hid (fun (X : World) (vk : Value) (h : UN base D T v va ns zs A W vk us X) => by have := is_any y zs A cap X h.doc h.rd hz; rw [hf] at this; exact this)
        clear hf
        go_wp2_with fail
        refine KN.out.mono ?_
        rintro e w1 ⟨rfl, rfl⟩
        go_wp2_with fail
        go_region_law (first
          | (go_simp; go_at_call 69; refine HKP.out.mono ?_; rintro e w2 ⟨rfl, hp⟩; obtain ⟨vk2, hU2⟩ := HT.out _ _ _ _ _ HUD.out hp; have e0 := hU2.st.cells.1; have HU2 := Lib.hid hU2; clear hp hU2)
          | (go_simp; go_at_call 41; refine (KI.out _ _ HU2.out).mono ?_; rintro e w3 ⟨rfl, rfl⟩))
        all_goals
          go_wp2
          go_roundw
          case rel => exact ⟨vk2, us, by have := HLE.out; omega, HU2, HCU⟩
          case measure =>
            have h1 := HLEN.out
            have h2 := st_len HU2.out.st
            rw [List.length_append, List.length_cons, List.length_nil] at h1
            omega
set_option maxRecDepth 100000 in
set_option maxHeartbeats 2000000 in
theorem back_to (hd : DocM base D v false ns W) (hst : StM T (.pointer (some ⟨D, 0, none⟩)) va xs W) (hap : ∀ k, DB D v ns k → ¬ ST T va k) (hr : RdT W A zs) (hA : ∀ ad, A = some ad → ¬ ST T va ad.block) (hz : zs.length ≤ 1000000) (hl : xs.length ≤ 1000000) :
    Calls Try.prog 33 #[.pointer (some ⟨T, 0, none⟩), .slice A zs.length cap] W fun e W' => e = .returned (.tuple #[]) ∧ UPost base D T v va ns (cutB (fun n => isN ns n zs) xs.reverse).reverse W W' := by
  have HT := Lib.hid (fun (vk : Value) (ys ys' : List Int) (X X' : World) (h : UN base D T v va ns zs A W vk ys X) (hp : SPost T (.pointer (some ⟨D, 0, none⟩)) vk ys' X X') => h.turn hd hap hr hA hp)
  have H0 : Hid (UN base D T v va ns zs A W va xs W) := Lib.hid ⟨hd, hst, Frm.refl _ _, fun k hk => .inl hk, hr⟩
  clear hd hst hap hr hA
  go_enter Try.func33, Try.ntmps33
  go_wp2
  go_loopw [] (fun wr => ∃ (vk : Value) (ys : List Int), ys.length ≤ xs.length ∧ Hid (UN base D T v va ns zs A W vk ys wr) ∧ Hid (cutB (fun n => isN ns n zs) ys.reverse = cutB (fun n => isN ns n zs) xs.reverse)) (fun wr => (stLen wr T))
  case atStart => exact ⟨va, xs, Nat.le_refl _, H0, Lib.hid rfl⟩
  case round =>
    obtain ⟨vk, ys, hle, HU, HC⟩ := hrel
    have KN := Lib.hid (fun q => nodes_any (wr.drewN q) (HU.out.drewN q).st)
    obtain ⟨Ak, ck, rfl, _, _, _⟩ := HU.out.st.rd.form
    have c0 := HU.out.st.cells.1
    by_cases hy : ys = []
    · subst hy
      have hc := HC.out
      rw [show cutB (fun n => isN ns n zs) ([] : List Int).reverse = [] from rfl] at hc
      have HCC := Lib.hid hc
      have HUQ := Lib.hid (fun q => (HU.out.drewN q).post)
      simp only [List.length_nil] at KN
      clear hc HC
      go_wp2_with fail
      go_quiet (first | (go_at_call 68; exact Calls.quiet_of_same (KN.out _)))
      go_wp2
      go_end0
      rw [← HCC.out]
      exact ⟨rfl, HUQ.out _⟩
    · obtain ⟨us, y, rfl⟩ := snoc_of hy
      have hcu : cutB (fun n => isN ns n zs) (us ++ [y]).reverse = if isN ns y zs then y :: us.reverse else cutB (fun n => isN ns n zs) us.reverse := by
        rw [List.reverse_append]
        rfl
      have HCU := Lib.hid (hcu.symm.trans HC.out)
      have HLEN := Lib.hid (st_len HU.out.st)
      have KT := fun q => top_any (wr.drewN q) (HU.out.drewN q).st (by omega)
      rw [topI_snoc] at KT
      have HKT := Lib.hid KT
      have KI := fun q => is_any y zs A cap (wr.drewN q) (HU.out.drewN q).doc (HU.out.drewN q).rd hz
      have KP := fun q => pop_any (wr.drewN q) (HU.out.drewN q).st (by omega)
      rw [topI_snoc, List.dropLast_concat] at KP
      have HKP := Lib.hid KP
      have HUQ := Lib.hid (fun q => HU.out.drewN q)
      rw [List.length_append, List.length_cons, List.length_nil] at hle KN
      have HLE := Lib.hid hle
      obtain ⟨m, hm⟩ : ∃ m, us.length = m := ⟨_, rfl⟩
      rw [hm] at KN hle
      have HM := Lib.hid hm
      have d0 : decide ((0 : Int) < (m : Int) + 1) = true := decide_eq_true (by omega)
      clear KP hcu HC hy hm KT
      cases hf : isN ns y zs with
      | true =>
        rw [hf, if_pos rfl] at HCU
        rw [hf] at KI
        have HKI := Lib.hid KI
        clear hf KI
        go_wp2_with fail
        go_quiet (first | (go_at_call 68; exact Calls.quiet_of_same (KN.out _)) | (go_at_call 70; exact Calls.quiet_of_same (HKT.out _)) | (go_at_call 41; exact Calls.quiet_of_same (HKI.out _)))
        go_wp2
        go_end0
        rw [← HCU.out, List.reverse_cons, List.reverse_reverse]
        exact ⟨rfl, (HUQ.out _).post⟩
      | false =>
        rw [hf, if_neg (by decide)] at HCU
        rw [hf] at KI
        have HKI := Lib.hid KI
        clear hf KI
        go_wp2_with fail
        go_quiet (first | (go_at_call 68; exact Calls.quiet_of_same (KN.out _)) | (go_at_call 70; exact Calls.quiet_of_same (HKT.out _)) | (go_at_call 41; exact Calls.quiet_of_same (HKI.out _)))
        go_wp2_with fail
        refine (HKP.out _).mono ?_
        rintro e w2 ⟨rfl, hp⟩
        obtain ⟨vk2, hU2⟩ := HT.out _ _ _ _ _ (HUQ.out _) hp
        have HU2 := Lib.hid hU2
        clear hp hU2
        go_wp2
        go_roundw
        case rel => exact ⟨vk2, us, by have := HLE.out; omega, HU2, HCU⟩
        case measure =>
          have h1 := HLEN.out
          have h2 := st_len HU2.out.st
          rw [List.length_append, List.length_cons, List.length_nil] at h1
          omega
end
end Go.Proofs.Ytfkbjniodomdjaa
