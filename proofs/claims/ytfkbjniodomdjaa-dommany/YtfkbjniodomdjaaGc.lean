/- Whether a node stands within another one. -/
import Derived.Test.YtfkbjniodomdjaaGb
namespace Go.Proofs.Ytfkbjniodomdjaa
open Go.RowKit Go.Shelf Go.Lib

section
variable {base D : Nat} {v : Value} {qk : Bool} {ns : List Nd}
theorem within_any (n top : Int) (W : World) (h : DocM base D v qk ns W) (hl : ns.length ≤ 1000000) : Calls Try.prog 62 #[.pointer (some ⟨D, 0, none⟩), .int .i64 n, .int .i64 top] W fun e W' => e = .returned (.bool (withN ns n top)) ∧ W' = W := by
  unfold withN
  by_cases hnt : n = top
  · rw [if_pos hnt]
    have d0 : (n == top) = true := by rw [hnt]; simp
    clear hnt h
    go_enter Try.func62, Try.ntmps62
    go_wp2
    go_ret
    exact ⟨rfl, rfl⟩
  · rw [if_neg hnt]
    have d0 : (n == top) = false := by rw [beq_eq_false_iff_ne]; exact hnt
    clear hnt
    have KK := kids_any top W h
    obtain ⟨A, c, e1, hle, hmx, _, hr, _⟩ := kids_form top h
    rw [e1] at KK
    have KK := Lib.hid KK
    have KI := Lib.hid (inner_any top W h)
    have KA := Lib.hid (fun m => above_any m W h)
    obtain ⟨c0, _, _⟩ := h.cells
    obtain ⟨Av, cv, hv, _, _, _⟩ := h.sl
    rw [hv] at c0
    obtain ⟨q, hq⟩ : ∃ q, innN ns top = q := ⟨_, rfl⟩
    rw [hq] at KI ⊢
    obtain ⟨L, hL⟩ : ∃ L, (kdN ns top).length = L := ⟨_, rfl⟩
    rw [hL] at KK ⊢
    obtain ⟨Z, hZ⟩ : ∃ Z, climb ns top ns.length n = Z := ⟨_, rfl⟩
    rw [hZ]
    have HZ := Lib.hid hZ
    clear h hr hle hmx hv hq hL e1 hZ
    have tail : ∀ (X : Bool), L ≠ 0 ∨ q ≠ -1 → (if L = 0 ∧ q = -1 then false else X) = X := fun X hx => if_neg (fun e => by omega)
    by_cases hz : L = 0
    · have d1 : ((L : Int) == 0) = true := by rw [hz]; rfl
      have d1' : (L == 0) = true := by rw [hz]; rfl
      by_cases hq : q = -1
      · rw [if_pos ⟨hz, hq⟩]
        have d2 : (q == -1) = true := by rw [hq]; rfl
        clear hz hq
        go_enter Try.func62, Try.ntmps62
        go_wp2_with fail
        refine KK.out.mono ?_
        rintro e w1 ⟨rfl, rfl⟩
        go_wp2_with fail
        refine KI.out.mono ?_
        rintro e w1 ⟨rfl, rfl⟩
        go_wp2
        go_ret
        exact ⟨rfl, rfl⟩
      · rw [tail _ (.inr hq)]
        have d2 : (q == -1) = false := by rw [beq_eq_false_iff_ne]; exact hq
        clear hz hq tail
        go_enter Try.func62, Try.ntmps62
        go_wp2_with fail
        refine KK.out.mono ?_
        rintro e w1 ⟨rfl, rfl⟩
        go_wp2_with fail
        refine KI.out.mono ?_
        rintro e w1 ⟨rfl, rfl⟩
        go_wp2
        go_loopw [1, 26] (fun nv kv wx => ∃ (m : Int) (k : Nat), k ≤ ns.length ∧ nv = .int .i64 m ∧ kv = .int .i64 k ∧ wx = w1 ∧ Hid (climb ns top (ns.length - k) m = Z)) (fun _ kv _ => ns.length - (intOf kv).toNat)
        case atStart => exact ⟨n, 0, Nat.zero_le _, rfl, rfl, rfl, HZ⟩
        case round =>
          obtain ⟨m, k, hk, rfl, rfl, rfl, HC⟩ := hrel
          by_cases hkl : k < ns.length
          · have hsub : ns.length - k = (ns.length - (k + 1)) + 1 := by omega
            have hc := HC.out
            rw [hsub] at hc
            unfold climb at hc
            have HC2 := Lib.hid hc
            obtain ⟨u, hu⟩ : ∃ u, aboveN ns m = u := ⟨_, rfl⟩
            have KAm := Lib.hid (KA.out m)
            rw [hu] at KAm HC2
            clear hc hsub HC hu
            by_cases h1 : u = top
            · have e1 : (u == top) = true := by rw [h1]; simp
              have HF := HC2.out
              rw [if_pos (.inl h1)] at HF
              have HB : Hid ((Z == top) = true) := Lib.hid (by rw [← HF]; exact e1)
              clear h1 HC2 HF
              go_wp2_with fail
              refine KAm.out.mono ?_
              rintro e w2 ⟨rfl, rfl⟩
              go_wp2
              go_ret
              exact ⟨by rw [HB.out]; rfl, rfl⟩
            · have e1 : (u == top) = false := by rw [beq_eq_false_iff_ne]; exact h1
              by_cases h2 : u = -1
              · have e2 : (u == -1) = true := by rw [h2]; rfl
                have HF := HC2.out
                rw [if_pos (.inr h2)] at HF
                have HB : Hid ((Z == top) = false) := Lib.hid (by rw [← HF]; exact e1)
                clear h1 h2 HC2 HF
                go_wp2_with fail
                refine KAm.out.mono ?_
                rintro e w2 ⟨rfl, rfl⟩
                go_wp2
                go_ret
                exact ⟨by rw [HB.out]; rfl, rfl⟩
              · have e2 : (u == -1) = false := by rw [beq_eq_false_iff_ne]; exact h2
                have HF := HC2.out
                rw [if_neg (fun e => by rcases e with e | e; exact h1 e; exact h2 e)] at HF
                have HF := Lib.hid HF
                clear h1 h2 HC2
                go_wp2_with fail
                refine KAm.out.mono ?_
                rintro e w2 ⟨rfl, rfl⟩
                go_wp2
                go_roundw
                case rel => exact ⟨u, k + 1, by omega, rfl, by go_num, by first | rfl | trivial, HF⟩
                case measure => simp [intOf]; omega
          · obtain rfl : k = ns.length := by omega
            have hc := HC.out
            rw [Nat.sub_self] at hc
            have HF : Hid (m = Z) := Lib.hid hc
            clear hc HC hkl
            obtain ⟨bb, hbb⟩ : ∃ bb, (m == top) = bb := ⟨_, rfl⟩
            have HB : Hid ((Z == top) = bb) := Lib.hid (by rw [← HF.out]; exact hbb)
            clear HF
            go_wp2
            go_ret
            exact ⟨by rw [HB.out, ← hbb]; rfl, rfl⟩
    · rw [tail _ (.inl hz)]
      have d1 : ((L : Int) == 0) = false := by rw [beq_eq_false_iff_ne]; omega
      have d1' : (L == 0) = false := by rw [beq_eq_false_iff_ne]; exact hz
      clear hz tail
      go_enter Try.func62, Try.ntmps62
      go_wp2_with fail
      refine KK.out.mono ?_
      rintro e w1 ⟨rfl, rfl⟩
      go_wp2
      go_loopw [1, 26] (fun nv kv wx => ∃ (m : Int) (k : Nat), k ≤ ns.length ∧ nv = .int .i64 m ∧ kv = .int .i64 k ∧ wx = w1 ∧ Hid (climb ns top (ns.length - k) m = Z)) (fun _ kv _ => ns.length - (intOf kv).toNat)
      case atStart => exact ⟨n, 0, Nat.zero_le _, rfl, rfl, rfl, HZ⟩
      case round =>
        obtain ⟨m, k, hk, rfl, rfl, rfl, HC⟩ := hrel
        by_cases hkl : k < ns.length
        · have hsub : ns.length - k = (ns.length - (k + 1)) + 1 := by omega
          have hc := HC.out
          rw [hsub] at hc
          unfold climb at hc
          have HC2 := Lib.hid hc
          obtain ⟨u, hu⟩ : ∃ u, aboveN ns m = u := ⟨_, rfl⟩
          have KAm := Lib.hid (KA.out m)
          rw [hu] at KAm HC2
          clear hc hsub HC hu
          by_cases h1 : u = top
          · have e1 : (u == top) = true := by rw [h1]; simp
            have HF := HC2.out
            rw [if_pos (.inl h1)] at HF
            have HB : Hid ((Z == top) = true) := Lib.hid (by rw [← HF]; exact e1)
            clear h1 HC2 HF
            go_wp2_with fail
            refine KAm.out.mono ?_
            rintro e w2 ⟨rfl, rfl⟩
            go_wp2
            go_ret
            exact ⟨by rw [HB.out]; rfl, rfl⟩
          · have e1 : (u == top) = false := by rw [beq_eq_false_iff_ne]; exact h1
            by_cases h2 : u = -1
            · have e2 : (u == -1) = true := by rw [h2]; rfl
              have HF := HC2.out
              rw [if_pos (.inr h2)] at HF
              have HB : Hid ((Z == top) = false) := Lib.hid (by rw [← HF]; exact e1)
              clear h1 h2 HC2 HF
              go_wp2_with fail
              refine KAm.out.mono ?_
              rintro e w2 ⟨rfl, rfl⟩
              go_wp2
              go_ret
              exact ⟨by rw [HB.out]; rfl, rfl⟩
            · have e2 : (u == -1) = false := by rw [beq_eq_false_iff_ne]; exact h2
              have HF := HC2.out
              rw [if_neg (fun e => by rcases e with e | e; exact h1 e; exact h2 e)] at HF
              have HF := Lib.hid HF
              clear h1 h2 HC2
              go_wp2_with fail
              refine KAm.out.mono ?_
              rintro e w2 ⟨rfl, rfl⟩
              go_wp2
              go_roundw
              case rel => exact ⟨u, k + 1, by omega, rfl, by go_num, by first | rfl | trivial, HF⟩
              case measure => simp [intOf]; omega
        · obtain rfl : k = ns.length := by omega
          have hc := HC.out
          rw [Nat.sub_self] at hc
          have HF : Hid (m = Z) := Lib.hid hc
          clear hc HC hkl
          obtain ⟨bb, hbb⟩ : ∃ bb, (m == top) = bb := ⟨_, rfl⟩
          have HB : Hid ((Z == top) = bb) := Lib.hid (by rw [← HF.out]; exact hbb)
          clear HF
          go_wp2
          go_ret
          exact ⟨by rw [HB.out, ← hbb]; rfl, rfl⟩
end
end Go.Proofs.Ytfkbjniodomdjaa
