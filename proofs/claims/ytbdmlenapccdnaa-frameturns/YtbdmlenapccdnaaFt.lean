/- The law FrameTurns, walked. -/
import Derived.Test.YtbdmlenapccdnaaFg
import Derived.Test.YtbdmlenapccdnaaFw
namespace Go.Proofs.Ytbdmlenapccdnaa
open Go.RowKit

theorem and16 (x : Int) : 0 ≤ bits .and .i64 x 65535 ∧ bits .and .i64 x 65535 ≤ 65535 := by
  have h1 : (BitVec.ofInt 64 x &&& BitVec.ofInt 64 65535).toNat ≤ 65535 := by
    rw [BitVec.toNat_and]
    exact Nat.le_trans Nat.and_le_right (by decide)
  have h2 : bits .and .i64 x 65535 = IntKind.i64.wrap ((BitVec.ofInt 64 x &&& BitVec.ofInt 64 65535).toNat : Int) := rfl
  rw [h2]
  generalize (BitVec.ofInt 64 x &&& BitVec.ofInt 64 65535).toNat = y at h1
  simp [IntKind.wrap, IntKind.bits, IntKind.signed]
  omega
theorem frame_byte {d : List Int} (h : Byte8 d) : Byte8 (Fx.frame d) := by
  intro c hc
  unfold Fx.frame at hc
  rcases List.mem_append.1 hc with hc | hc
  · rcases List.mem_append.1 hc with hc | hc
    · exact Nx.put_rng _ c hc
    · unfold Fx.four at hc
      simp only [List.mem_cons, List.not_mem_nil, or_false] at hc
      omega
  · exact h c hc
theorem xor_turn {x : Nat} {c : Nat} (hc : c ≠ 0) : x ^^^ c ≠ x := by
  intro h
  have : x ^^^ (x ^^^ c) = x ^^^ x := by rw [h]
  rw [← Nat.xor_assoc, Nat.xor_self, Nat.zero_xor] at this
  exact hc this
theorem rd_tk {w : World} {k : IntKind} {A : Option Addr} {l : List Int} (n : Nat) (h : Rd w k A l) : Rd w k A (l.take n) := by
  rcases h with rfl | ⟨b, off, e, hb, hc⟩
  · left; simp
  · refine .inr ⟨b, off, e, hb, fun i hi => ?_⟩
    have hi' : i < n ∧ i < l.length := by rw [List.length_take] at hi; omega
    rw [hc i hi'.2]
    simp [hi'.1]
theorem rd_set {w : World} {g : Nat} {X : List Int} {k : Nat} {y : Int} (h : Rd w .u8 (some ⟨g, 0, none⟩) X) (hk : k < X.length) : Rd (w.setCell ⟨g, k, none⟩ (.int .u8 y)) .u8 (some ⟨g, 0, none⟩) (X.set k y) := by
  rcases h with rfl | ⟨b, off, e, hb, hc⟩
  · simp at hk
  · injection e with e
    injection e with e1 e2
    subst e1 e2
    refine .inr ⟨g, 0, rfl, by simpa [World.setCell] using hb, fun i hi => ?_⟩
    rw [List.length_set] at hi
    rw [Nat.zero_add]
    have hci := hc i hi
    rw [Nat.zero_add] at hci
    by_cases he : k = i
    · subst he
      rw [World.cell?_setCell_same' w _ _ (by rw [hci]; rfl), List.getElem?_set_self hi]
      rfl
    · rw [World.cell?_setCell_other w _ _ _ (by intro h; injection h with h1 h2; exact he h2), hci, List.getElem?_set_ne he]

set_option maxRecDepth 100000 in
set_option maxHeartbeats 1000000 in
theorem frameTurns_law (data : List Int) (B : Option Addr) (cb : Nat) (at0 bits0 : Int) (w : World) (hd : Rd w .u8 B data) (hB : B = none → cb = 0) (h8 : Byte8 data) (hbits : 0 ≤ bits0 ∧ bits0 ≤ 255) :
    Calls Try.prog 6 #[.slice B data.length cb, .int .i64 at0, .int .u8 bits0] w fun e w' => e = .returned (.bool true) ∧ Below w.heap.size w w' := by
  go_enter Try.func6, Try.ntmps6
  go_wp2_with fail
  refine (head5_any w).mono ?_
  rintro e w1 ⟨rfl, hb1⟩
  by_cases hl1 : (500 : Int) < (data.length : Int)
  · have hd1 : decide ((500 : Int) < (data.length : Int)) = true := by simpa using hl1
    go_wp2
    go_ret
    exact ⟨rfl, hb1⟩
  have hd1 : decide ((500 : Int) < (data.length : Int)) = false := by simpa using hl1
  by_cases hz : bits0 = 0
  · subst hz
    go_wp2
    go_ret
    exact ⟨rfl, hb1⟩
  have hz1 : (bits0 == 0) = false := by simpa using hz
  have HZ := Lib.hid hz
  clear hz
  go_wp2_with fail
  refine (Frame_any [] data none B 0 cb w1 (.inl rfl) (hd.below hb1) (fun _ => rfl) hB h8 (by simp) (by omega)).mono ?_
  simp only [List.nil_append]
  have hX8 := frame_byte h8
  have hXl : (Fx.frame data).length = (Nx.put data.length).length + 4 + data.length := by unfold Fx.frame; simp [Fx.four]; omega
  have hcut := next_cut data (by omega)
  have hturn := next_turn data h8 (by omega)
  obtain ⟨X, hX⟩ : ∃ X, Fx.frame data = X := ⟨_, rfl⟩
  rw [hX] at hX8 hXl hcut hturn
  rw [hX]
  have hpl := Nx.put_len data.length (by omega)
  obtain ⟨F, hF⟩ : ∃ F, Nx.put data.length = F := ⟨_, rfl⟩
  rw [hF] at hXl hcut hturn hpl
  have hXb : X.length ≤ 1000 := by omega
  have hX0 : 0 < X.length := by omega
  have HXL := Lib.hid hXl
  have HCUT := Lib.hid hcut
  have HTURN := Lib.hid hturn
  clear hX hXl hcut hturn
  rintro e w2 ⟨v2, rfl, hown2, hb2⟩
  obtain ⟨g, c, cur, rfl, hge, hgc, hcl, hcm, hcur⟩ : ∃ g c cur, v2 = .slice (some ⟨g, 0, none⟩) X.length c ∧ w1.heap.size ≤ g ∧ w2.heap[g]? = some (.cells cur 5 (0, 0)) ∧ X.length ≤ c ∧ c ≤ maxLen ∧ True := by
    rcases hown2.2 with ⟨_, h0⟩ | ⟨g, c, cur, e, h1, h2, h3, h4, _⟩
    · omega
    · exact ⟨g, c, cur, e, h1, h2, h3, h4, trivial⟩
  have hrd2 : Rd w2 .u8 (some ⟨g, 0, none⟩) X := by
    obtain ⟨A', c', e', _, _, _, h⟩ := Rd.own hown2
    injection e' with e1
    rw [e1]
    exact h
  have hfz : ∀ i, w2.frozen? ⟨g, i, none⟩ = false := by
    intro i
    unfold World.frozen?
    simp [hgc]
  have hgl := (Array.getElem?_eq_some_iff.1 hgc).1
  clear hown2 hgc hcur
  unfold maxLen at hcm
  go_wp2_with fail
  refine (Put_any [] none 0 data.length w2 (.inl rfl) (fun _ => rfl) (by simp) (by omega)).mono ?_
  simp only [List.nil_append]
  rintro e w3 ⟨v3, rfl, hown3, hb3⟩
  rw [hF] at hown3
  obtain ⟨A3, c3, rfl, hl3, hc3, hn3, hrd3⟩ := Rd.own hown3
  clear hl3 hF hown3 hn3 hrd3 hc3
  obtain ⟨hm0, hm1⟩ := and16 at0
  obtain ⟨m, hm⟩ : ∃ m : Nat, bits .and .i64 at0 65535 = (m : Int) := ⟨(bits .and .i64 at0 65535).toNat, by omega⟩
  rw [hm] at hm0 hm1
  obtain ⟨r, hr⟩ : ∃ r : Nat, m % (4 + data.length) = r := ⟨_, rfl⟩
  have hrl : r < 4 + data.length := by rw [← hr]; exact Nat.mod_lt _ (by omega)
  have hsub : (X.length : Int) - (F.length : Int) = ((4 + data.length : Nat) : Int) := by have := HXL.out; omega
  have hrem : (m : Int) % ((4 + data.length : Nat) : Int) = (r : Int) := by
    rw [← hr]
    first | exact (Int.natCast_emod m _).symm | exact (Int.natCast_mod m _).symm | exact (Int.ofNat_emod m _).symm
  obtain ⟨N, hN⟩ : ∃ N, 4 + data.length = N := ⟨_, rfl⟩
  rw [hN] at hsub hrem hrl
  have hNb : N ≤ 504 := by omega
  have hN0 : ¬ ((N : Int) = 0) := by omega
  clear hN hr
  have hKl : F.length + r < X.length := by omega
  have hK1 : ((F.length : Int) + (r : Int)) < (X.length : Int) := by omega
  have hlen : (X.take (F.length + r)).length = F.length + r := by rw [List.length_take]; omega
  have hrd3 := hrd2.below hb3
  have k1 := Next_err (X.take (F.length + r)) (some ⟨g, 0, none⟩) c 8 w3 (rd_tk _ hrd3) (hX8.take _) (by rw [hlen]; omega) (by unfold maxLen; exact hcm) (by rw [hlen]; omega) (HCUT.out _ (by omega) hKl)
  rw [hlen] at k1
  have K1 := Lib.hid k1
  obtain ⟨x, hx⟩ : ∃ x, X[F.length + r]? = some x := ⟨_, List.getElem?_eq_getElem hKl⟩
  obtain ⟨hx0, hx1⟩ := hX8 x (List.mem_of_getElem? hx)
  obtain ⟨hq0, hq1⟩ := hbits
  obtain ⟨y, hy⟩ : ∃ y : Nat, x.toNat ^^^ bits0.toNat = y := ⟨_, rfl⟩
  have hyl : y < 256 := by rw [← hy]; exact Nat.xor_lt_two_pow (n := 8) (by omega) (by omega)
  have hxor : bits .xor .u8 x bits0 = (y : Int) := by rw [u8_xor x bits0 hx0 (by omega) hq0 (by omega), hy]
  have hyne : X[F.length + r]? ≠ some (y : Int) := by
    rw [hx]
    intro e
    injection e with e
    have : x.toNat ^^^ bits0.toNat ≠ x.toNat := xor_turn (by have := HZ.out; omega)
    omega
  have hxc : w3.cell? ⟨g, F.length + r, none⟩ = some (.int .u8 x) := by
    rcases hrd3 with h | ⟨b', off', e', _, h⟩
    · rw [h] at hKl; simp at hKl
    · injection e' with e'
      injection e' with e1 e2
      subst e1 e2
      have := h (F.length + r) hKl
      rw [hx, Nat.zero_add] at this
      exact this
  have HN := Lib.hid (HTURN.out (F.length + r) (y : Int) ⟨by omega, by omega⟩ (by omega) hKl hyne)
  have hgl3 : g < w3.heap.size := Nat.lt_of_lt_of_le hgl hb3.size
  clear hx hy hyne k1 hlen hd hB h8
  go_wp2_with fail
  refine K1.out.mono ?_
  rintro e w4 ⟨rfl, hb4⟩
  have y1 : w4.cell? ⟨g, F.length + r, none⟩ = some (.int .u8 x) := (hb4.cell (p := ⟨g, F.length + r, none⟩) hgl3).trans hxc
  have y2 : w4.frozen? ⟨g, F.length + r, none⟩ = false := ((hb4.frozen (p := ⟨g, F.length + r, none⟩) hgl3).trans (hb3.frozen (p := ⟨g, F.length + r, none⟩) hgl)).trans (hfz _)
  have hrd5 : Rd (w4.setCell ⟨g, F.length + r, none⟩ (.int .u8 (y : Int))) .u8 (some ⟨g, 0, none⟩) (X.set (F.length + r) (y : Int)) := rd_set (hrd3.below hb4) hKl
  have hY8 : Byte8 (X.set (F.length + r) (y : Int)) := by
    intro c' hc'
    rcases List.mem_or_eq_of_mem_set hc' with h | h
    · exact hX8 c' h
    · omega
  have hYl : (X.set (F.length + r) (y : Int)).length = X.length := List.length_set
  have hB5 : Below w1.heap.size w1 (w4.setCell ⟨g, F.length + r, none⟩ (.int .u8 (y : Int))) := (thn (thn hb2 hb3) hb4).setCell (p := ⟨g, F.length + r, none⟩) hge _
  have k2 := Next_err _ (some ⟨g, 0, none⟩) c 12 _ hrd5 hY8 (by rw [hYl]; exact hcl) (by unfold maxLen; exact hcm) (by rw [hYl]; omega) HN.out
  rw [hYl] at k2
  have K2 := Lib.hid k2
  have K3 := Lib.hid (fun w' (h : Below (w4.setCell ⟨g, F.length + r, none⟩ (.int .u8 (y : Int))).heap.size (w4.setCell ⟨g, F.length + r, none⟩ (.int .u8 (y : Int))) w') => Whole_err _ (some ⟨g, 0, none⟩) c 12 w' (hrd5.below h) hY8 (by rw [hYl]; exact hcl) (by unfold maxLen; exact hcm) (by rw [hYl]; omega) (by rw [hYl]; exact hX0) HN.out (by decide))
  rw [hYl] at K3
  clear k2 hYl hrd5 hY8
  go_wp2_with fail
  refine K2.out.mono ?_
  rintro e w6 ⟨rfl, hb6⟩
  go_wp2_with fail
  refine (K3.out w6 hb6).mono ?_
  rintro e w7 ⟨rfl, hb7⟩
  have hfin := thn hb1 (thn (thn hB5 hb6) hb7)
  clear hb6 hb7 K2 K3
  go_wp2
  go_ret
  exact ⟨rfl, hfin⟩

end Go.Proofs.Ytbdmlenapccdnaa
