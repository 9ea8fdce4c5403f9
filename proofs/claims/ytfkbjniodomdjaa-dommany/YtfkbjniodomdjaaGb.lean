/- Where a node stands: place, above, within; Kids. -/
import Derived.Test.YtfkbjniodomdjaaGa
import Derived.Test.YtfkbjniodomdjaaEc
import Derived.Test.YtfkbjniodomdjaaOShelf
import Derived.Test.YtfkbjniodomdjaaPShelf
namespace Go.Proofs.Ytfkbjniodomdjaa
open Go.RowKit Go.Shelf Go.Lib

section
variable {base D : Nat} {v : Value} {qk : Bool} {ns : List Nd}
abbrev kdN (ns : List Nd) (n : Int) : List Int := atN ns n Nd.kids []
theorem kids_form (n : Int) {W : World} (h : DocM base D v qk ns W) : ∃ A c, atN ns n Nd.kv (.slice none 0 0) = .slice A (kdN ns n).length c ∧ (kdN ns n).length ≤ c ∧ c ≤ maxLen ∧ (A = none → c = 0) ∧ Rd W .i64 A (kdN ns n) ∧ W.ownsRow base 3 1 (atN ns n Nd.kv (.slice none 0 0)) (kdN ns n).length ((kdN ns n).map (Value.int .i64)) := by
  unfold kdN
  cases hn : inN ns n with
  | false =>
    rw [atN_none hn, atN_none hn]
    exact ⟨none, 0, rfl, Nat.le_refl _, Nat.zero_le _, fun _ => rfl, .inl rfl, World.ownsRow_nil _ _ _ _⟩
  | true =>
    obtain ⟨i, x, rfl, hx⟩ := inN_at hn
    rw [atN_some hx, atN_some hx]
    obtain ⟨A, c, e1, _, h2, h3, h4⟩ := Rd.own (h.kids i x hx)
    have hm : c ≤ maxLen := by
      rcases (h.kids i x hx).2 with ⟨e2, _⟩ | ⟨g, cap, cur, e2, _, _, _, hm, _⟩
      · rw [e1] at e2; injection e2 with _ _ e2; rw [e2]; exact Nat.zero_le _
      · rw [e1] at e2; injection e2 with _ _ e2; rw [e2]; exact hm
    exact ⟨A, c, e1, h2, hm, h3, h4, h.kids i x hx⟩
theorem index_any (n : Int) (A : Option Addr) (cap : Nat) (xs : List Int) (W : World) (hr : Rd W .i64 A xs) (hle : xs.length ≤ cap) (hmx : cap ≤ maxLen) : Calls Try.prog 64 #[.slice A xs.length cap, .int .i64 n] W fun e W' => e = .returned (.int .i64 (Lib.idxOf xs n)) ∧ W' = W := by
  unfold maxLen at hmx
  rcases hr with rfl | ⟨b, off, rfl, hb, hc⟩
  · exact Any.slices_Index_int_empty Try.kindex A cap n W
  · have := Any.slices_Index_int Try.kindex b off xs.length cap xs n W (Nat.le_refl _) (by omega) (fun j hj => by rw [hc j hj]; simp [List.getD])
    rw [List.take_length] at this
    exact this
/-- where one stands among a node's kids, and whether -/
def plcN (ns : List Nd) (up before : Int) : Int := if before = -1 then (kdN ns up).length else Lib.idxOf (kdN ns up) before
def plcB (ns : List Nd) (up before : Int) : Bool := if before = -1 then true else decide (0 ≤ Lib.idxOf (kdN ns up) before)
theorem dplace_any (up before : Int) (W : World) (h : DocM base D v qk ns W) : Calls Try.prog 60 #[.pointer (some ⟨D, 0, none⟩), .int .i64 up, .int .i64 before] W fun e W' => e = .returned (.tuple #[.int .i64 (plcN ns up before), .bool (plcB ns up before)]) ∧ W' = W := by
  have KK := kids_any up W h
  obtain ⟨A, c, e1, hle, hmx, _, hr, _⟩ := kids_form up h
  rw [e1] at KK
  have KI := Lib.hid (index_any before A c (kdN ns up) W hr hle hmx)
  have HK := Lib.hid KK
  unfold plcN plcB
  obtain ⟨K, hK⟩ : ∃ K, kdN ns up = K := ⟨_, rfl⟩
  rw [hK] at HK KI ⊢
  clear h KK e1 hr hle hmx hK
  by_cases hb : before = -1
  · subst hb
    rw [if_pos rfl, if_pos rfl]
    clear KI
    go_enter Try.func60, Try.ntmps60
    go_wp2_with fail
    refine HK.out.mono ?_
    rintro e w1 ⟨rfl, rfl⟩
    go_wp2
    go_ret2
    exact ⟨rfl, rfl⟩
  · rw [if_neg hb, if_neg hb]
    have d0 : (before == -1) = false := by rw [beq_eq_false_iff_ne]; exact hb
    obtain ⟨q, hq⟩ : ∃ q, Lib.idxOf K before = q := ⟨_, rfl⟩
    rw [hq] at KI ⊢
    obtain ⟨bq, hbq⟩ : ∃ b, decide ((0 : Int) ≤ q) = b := ⟨_, rfl⟩
    clear hq hb
    go_enter Try.func60, Try.ntmps60
    go_wp2_with fail
    refine HK.out.mono ?_
    rintro e w1 ⟨rfl, rfl⟩
    go_wp2_with fail
    refine KI.out.mono ?_
    rintro e w2 ⟨rfl, rfl⟩
    go_wp2
    go_ret2
    exact ⟨by subst hbq; rfl, rfl⟩
theorem above_any (n : Int) (W : World) (h : DocM base D v qk ns W) : Calls Try.prog 81 #[.pointer (some ⟨D, 0, none⟩), .int .i64 n] W fun e W' => e = .returned (.int .i64 (aboveN ns n)) ∧ W' = W := by
  have KU := Lib.hid (up_any n W h)
  have KI := Lib.hid (inner_any (wrap64 (n - 1)) W h)
  unfold aboveN
  obtain ⟨u, hu⟩ : ∃ u, atN ns n Nd.up (-1) = u := ⟨_, rfl⟩
  obtain ⟨q, hq⟩ : ∃ q, innN ns (wrap64 (n - 1)) = q := ⟨_, rfl⟩
  rw [hu] at KU ⊢
  rw [hq] at KI ⊢
  clear h hu hq
  by_cases hu : u = -1
  · have e1 : (u != -1) = false := by rw [hu]; rfl
    rw [if_neg (by simpa using hu)]
    by_cases hq : q = n
    · rw [if_pos hq]
      have e2 : (q == n) = true := by rw [hq]; simp
      clear hq hu
      go_enter Try.func81, Try.ntmps81
      go_wp2_with fail
      refine KU.out.mono ?_
      rintro e w1 ⟨rfl, rfl⟩
      go_wp2_with fail
      refine KI.out.mono ?_
      rintro e w2 ⟨rfl, rfl⟩
      go_wp2
      go_ret
      exact ⟨rfl, rfl⟩
    · rw [if_neg hq]
      have e2 : (q == n) = false := by rw [beq_eq_false_iff_ne]; exact hq
      clear hq hu
      go_enter Try.func81, Try.ntmps81
      go_wp2_with fail
      refine KU.out.mono ?_
      rintro e w1 ⟨rfl, rfl⟩
      go_wp2_with fail
      refine KI.out.mono ?_
      rintro e w2 ⟨rfl, rfl⟩
      go_wp2
      go_ret
      exact ⟨rfl, rfl⟩
  · have e1 : (u != -1) = true := by rw [bne_iff_ne]; exact hu
    rw [if_pos hu]
    clear hu
    go_enter Try.func81, Try.ntmps81
    go_wp2_with fail
    refine KU.out.mono ?_
    rintro e w1 ⟨rfl, rfl⟩
    go_wp2
    go_ret
    exact ⟨rfl, rfl⟩
/-- up and up, so often at most -/
def climb (ns : List Nd) (top : Int) : Nat → Int → Int
  | 0, n => n
  | f + 1, n => if aboveN ns n = top ∨ aboveN ns n = -1 then aboveN ns n else climb ns top f (aboveN ns n)
def withN (ns : List Nd) (n top : Int) : Bool := if n = top then true else if (kdN ns top).length = 0 ∧ innN ns top = -1 then false else climb ns top ns.length n == top
end
end Go.Proofs.Ytfkbjniodomdjaa
