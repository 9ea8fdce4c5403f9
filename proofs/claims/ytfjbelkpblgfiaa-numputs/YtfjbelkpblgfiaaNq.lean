/- The law NumPuts, walked. -/
import Derived.Test.YtfjbelkpblgfiaaNt
import Derived.Maps.AppendAt
namespace Go.Proofs.Ytfjbelkpblgfiaa
open Go.RowKit
namespace Nx

def E1 (ns : List Int) : List Int := ns.flatMap fun x => put x.toNat
def E2 (ss : List ByteArray) : List Int := ss.flatMap fun s => put s.size ++ bs s
theorem E1_snoc (ns : List Int) (k : Nat) (h : k < ns.length) : E1 (ns.take (k + 1)) = E1 (ns.take k) ++ put (ns[k]?.getD 0).toNat := by
  unfold E1
  rw [List.take_succ_eq_append_getElem h, List.flatMap_append, List.getElem?_eq_getElem h]
  simp
theorem E2_snoc (ss : List ByteArray) (k : Nat) (h : k < ss.length) (s : ByteArray) (hs : ss[k]? = some s) : E2 (ss.take (k + 1)) = E2 (ss.take k) ++ (put s.size ++ bs s) := by
  unfold E2
  rw [List.getElem?_eq_getElem h] at hs
  rw [List.take_succ_eq_append_getElem h, List.flatMap_append, Option.some.inj hs]
  simp
theorem E1_len : ∀ ns : List Int, (∀ x ∈ ns, x < 18446744073709551616) → (E1 ns).length ≤ 10 * ns.length
  | [], _ => by simp [E1]
  | x :: ns, h => by
    have ih := E1_len ns (fun y hy => h y (by simp [hy]))
    have h1 := put_len x.toNat (by have := h x (by simp); omega)
    unfold E1 at ih ⊢
    rw [List.flatMap_cons, List.length_append, List.length_cons]
    omega
theorem E2_len : ∀ ss : List ByteArray, (∀ s ∈ ss, s.size ≤ 300) → (E2 ss).length ≤ 310 * ss.length
  | [], _ => by simp [E2]
  | x :: ns, h => by
    have ih := E2_len ns (fun y hy => h y (by simp [hy]))
    have h0 := h x (by simp)
    have h1 := put_len x.size (by omega)
    unfold E2 at ih ⊢
    rw [List.flatMap_cons, List.length_append, List.length_append, bs_len, List.length_cons]
    omega
theorem E1_rng (ns : List Int) : ∀ z ∈ E1 ns, 0 ≤ z ∧ z ≤ 255 := by
  intro z hz
  obtain ⟨x, _, hx⟩ := List.mem_flatMap.1 hz
  exact put_rng _ z hx
theorem E2_rng (ss : List ByteArray) : ∀ z ∈ E2 ss, 0 ≤ z ∧ z ≤ 255 := by
  intro z hz
  obtain ⟨s, _, hx⟩ := List.mem_flatMap.1 hz
  rcases List.mem_append.1 hx with h | h
  · exact put_rng _ z h
  · exact bs_rng s z h
end Nx

/-- a reader that stands ahead of a number -/
theorem numS_put (rest : ByteArray) (n : Nat) (hn : n < 18446744073709551616) (r : List Int) (h : bs rest = Nx.put n ++ r) (m : Nat) (hm : n ≤ m) : ∃ rest', numS rest m = (n, rest', 0) ∧ bs rest' = r := by
  have hg : Nx.go (bs rest) 0 0 = (n, (Nx.put n).length, 0) := by rw [h, Nx.first_put n hn r]
  refine ⟨rest.extract (Nx.put n).length rest.size, ?_, ?_⟩
  · unfold numS
    rw [hg, if_neg (by simp), if_neg (by simp; omega)]
  · rw [bs_extract, ← bs_len, List.take_length, h, List.drop_left]
theorem textS_put (rest s : ByteArray) (hn : s.size < 18446744073709551616) (r : List Int) (h : bs rest = Nx.put s.size ++ (bs s ++ r)) : ∃ rest', textS rest s.size = (s, rest', 0) ∧ bs rest' = r := by
  obtain ⟨r1, h1, h2⟩ := numS_put rest s.size hn (bs s ++ r) h s.size (Nat.le_refl _)
  have hl : r1.size = s.size + r.length := by rw [← bs_len, h2, List.length_append, bs_len]
  refine ⟨r1.extract s.size r1.size, ?_, ?_⟩
  · unfold textS
    rw [h1]
    simp only
    rw [if_neg (by simp), if_neg (by omega)]
    congr 1
    refine bs_inj ?_
    rw [bs_extract, h2, List.drop_zero, ← bs_len, List.take_left]
  · rw [bs_extract, ← bs_len r1, List.take_length, h2, ← bs_len s, List.drop_left]

/-- a slice of strings in memory -/
def RdS (w : World) (A : Option Addr) (xs : List ByteArray) : Prop :=
  xs = [] ∨ ∃ b off, A = some ⟨b, off, none⟩ ∧ b < w.heap.size ∧ ∀ i s, xs[i]? = some s → w.cell? ⟨b, off + i, none⟩ = some (.string s)
theorem RdS.pos {w : World} {A : Option Addr} {xs : List ByteArray} (h : RdS w A xs) (hx : 0 < xs.length) : ∃ b off, A = some ⟨b, off, none⟩ ∧ b < w.heap.size ∧ ∀ i s, xs[i]? = some s → w.cell? ⟨b, off + i, none⟩ = some (.string s) := by
  rcases h with rfl | h
  · simp at hx
  · exact h
theorem RdS.below {w w' : World} {A : Option Addr} {xs : List ByteArray} (h : RdS w A xs) (hb : Below w.heap.size w w') : RdS w' A xs := by
  rcases h with h | ⟨b, off, rfl, hlt, h⟩
  · exact .inl h
  · exact .inr ⟨b, off, rfl, Nat.lt_of_lt_of_le hlt hb.size, fun i s hs => (hb.cell (p := ⟨b, off + i, none⟩) hlt).trans (h i s hs)⟩

set_option maxRecDepth 100000 in
set_option maxHeartbeats 600000 in
theorem puts_any (ns : List Int) (ss : List ByteArray) (A B : Option Addr) (ca cb : Nat) (w : World) (hn : Rd w .u64 A ns) (hs : RdS w B ss) (hnl : ns.length ≤ 30) (hsl : ss.length ≤ 30) (hnr : ∀ x ∈ ns, 0 ≤ x ∧ x < 18446744073709551616) (hsm : ∀ s ∈ ss, s.size ≤ maxLen) :
    Calls Try.prog 3 #[.slice A ns.length ca, .slice B ss.length cb] w fun e w' => e = .returned (.bool true) ∧ Below w.heap.size w w' := by
  obtain ⟨i0, hi, hz0, hz1, hz2⟩ := info_parts infoU8
  have HR := Lib.hid hnr
  have HSM := Lib.hid hsm
  have td1 : decide ((30 : Int) < (ns.length : Int)) = false := by simp; omega
  have td2 : decide ((30 : Int) < (ss.length : Int)) = false := by simp; omega
  clear hnr hsm
  go_enter Try.func3, Try.ntmps3
  go_wp2_with (go_at_call 12; refine (head3_any _).mono ?_; rintro e w1 ⟨rfl, hb1⟩)
  go_loopw [5, 6, 30] (fun u5 u6 i wr => ∃ (k : Nat) (C : Option Addr) (cc : Nat), k ≤ ns.length ∧ i = .int .i64 k ∧ u5 = .slice C (Nx.E1 (ns.take k)).length cc ∧ Rd wr .u8 C (Nx.E1 (ns.take k)) ∧ (C = none → cc = 0) ∧
      wr.ownsRow w1.heap.size 5 1 u6 (Nx.E1 (ns.take k)).length ((Nx.E1 (ns.take k)).map (Value.int .u8)) ∧ Below w1.heap.size w1 wr)
    (fun _ _ i _ => ns.length - (intOf i).toNat)
  case atStart =>
    refine ⟨0, _, _, by omega, rfl, rfl, .inl rfl, (fun h => by cases h), ?_, ((Below.refl _ _).alloc (Nat.le_refl _) _).alloc (by simp) _⟩
    have := World.ownsRow_lit (base := w1.heap.size) (e := 5) (size := 1) (w1.alloc (.cells #[] 5)) #[] 0 (by simp) (by decide) rfl
    rw [World.size_alloc] at this
    simpa [Nx.E1] using this
  case round =>
    obtain ⟨k, C, cc, hk, rfl, rfl, hrd, hC, hrow, hB⟩ := hrel
    have hBw : Below w.heap.size w wr := hb1.trans (hB.mono hb1.size)
    have hE := Nx.E1_len (ns.take k) (fun x hx => (HR.out x (List.mem_of_mem_take hx)).2)
    rw [List.length_take] at hE
    by_cases hlt : k < ns.length
    · obtain ⟨bb, off, rfl, hbb, hcs⟩ := hn.pos (by omega)
      have hck := (hBw.cell (p := ⟨bb, off + k, none⟩) hbb).trans (hcs k hlt)
      have hsn := Nx.E1_snoc ns k hlt
      obtain ⟨x, hx⟩ : ∃ x, ns[k]?.getD 0 = x := ⟨_, rfl⟩
      have hxr : 0 ≤ x ∧ x < 18446744073709551616 := by
        rw [List.getElem?_eq_getElem hlt, Option.getD_some] at hx
        rw [← hx]
        exact HR.out _ (List.getElem_mem hlt)
      rw [hx] at hck hsn
      obtain ⟨y, rfl⟩ := Int.eq_ofNat_of_zero_le hxr.1
      rw [Int.toNat_natCast] at hsn
      have hy : y < 18446744073709551616 := by omega
      have hpl := Nx.put_len y hy
      have hpp := Nx.put_pos y
      have HSN := Lib.hid hsn
      have HY := Lib.hid hy
      clear hsn hcs hx hxr hy
      have hbz := hB.size
      go_wp2_with fail
      refine (Put_any _ C cc y _ hrd hC (by omega) HY.out).mono ?_
      rintro e w2 ⟨v2, rfl, hown2, hb2⟩
      go_wp2_with fail
      refine (lput_any y HY.out _).mono ?_
      rintro e w3 ⟨v3, rfl, hown3, hb3⟩
      obtain ⟨A3, c3, rfl, _, _, _, hrd3⟩ := Rd.own hown3
      obtain ⟨b3, o3, rfl, hb3l, _⟩ := hrd3.pos (by omega)
      have hrow3 := own_keep (own_keep hrow hb2) hb3
      have hsz2 := hb2.size
      have hsz3 := hb3.size
      go_wp2_with (at_builtin; refine wpList_append_own _ rfl _ _ 25 rfl w1.heap.size 5 i0 (.int .u8 0) 1 1 Try.underlying25 hi hz0 hz1 hz2 rfl (by decide) u6 _ _ rfl hrow3 ⟨b3, o3, none⟩ (Nx.put y).length c3 ((Nx.put y).map (Value.int .u8)) rfl (by simp) hrd3.add (ints_one _) (by unfold maxLen; omega) (by omega) (by omega) ?_; intro v4 w4 hown4 hg4 hnn; clear hnn)
      have hk2 := own_far (own_keep hown2 hb3) hg4 (fun g h1 h2 => by have h3 := (hown2.lt g h1).1; have h4 := (hrow.lt g h2).2; omega)
      obtain ⟨A2, c2, rfl, hl2, _, hA2, hrd2⟩ := Rd.own hk2
      go_roundw
      case rel =>
        refine ⟨k + 1, A2, c2, by omega, by go_num, by rw [HSN.out], by rw [HSN.out]; exact hrd2, hA2, by rw [HSN.out, List.length_append, List.map_append]; exact hown4, ?_⟩
        exact (hB.trans (hb2.mono (by omega))).trans (hb3.mono (by omega)) |>.grown hg4 (by omega) (fun j e => (hrow.lt j e).1)
      case measure => simp [intOf]; omega
    · obtain rfl : k = ns.length := by omega
      rw [List.take_length] at hrd hrow hE
      obtain ⟨N, hN⟩ : ∃ N, Nx.E1 ns = N := ⟨_, rfl⟩
      have HN := Lib.hid hN
      rw [List.take_length, hN]
      rw [hN] at hrd hrow hE
      clear hN hlt hk
      have hNl : N.length ≤ 300 := by omega
      clear hE
      obtain ⟨wa, rfl⟩ : ∃ wa, wr = wa := ⟨_, rfl⟩
      go_wp2_with fail
      go_loopw [5, 6, 44] (fun u5 u6 i wr => ∃ (k : Nat) (C : Option Addr) (cc : Nat), k ≤ ss.length ∧ i = .int .i64 k ∧ (∀ s ∈ ss.take k, s.size ≤ 300) ∧ u5 = .slice C (N ++ Nx.E2 (ss.take k)).length cc ∧ Rd wr .u8 C (N ++ Nx.E2 (ss.take k)) ∧ (C = none → cc = 0) ∧
          wr.ownsRow w1.heap.size 5 1 u6 (N ++ Nx.E2 (ss.take k)).length ((N ++ Nx.E2 (ss.take k)).map (Value.int .u8)) ∧ Below w1.heap.size w1 wr)
        (fun _ _ i _ => ss.length - (intOf i).toNat)
      case atStart =>
        have e0 : N ++ Nx.E2 (ss.take 0) = N := by simp [Nx.E2]
        exact ⟨0, C, cc, by omega, rfl, fun s hs => (by simp at hs), by rw [e0], by rw [e0]; exact hrd, hC, by rw [e0]; exact hrow, hB⟩
      case round =>
        obtain ⟨k, C, cc, hk, rfl, hsz, rfl, hrd, hC, hrow, hB⟩ := hrel
        have hBw : Below w.heap.size w wr := hb1.trans (hB.mono hb1.size)
        have hE := Nx.E2_len (ss.take k) hsz
        rw [List.length_take] at hE
        have HZ := Lib.hid hsz
        clear hsz
        obtain ⟨M, hM⟩ : ∃ M, N ++ Nx.E2 (ss.take k) = M := ⟨_, rfl⟩
        have hMl : M.length ≤ 9600 := by rw [← hM, List.length_append]; omega
        rw [hM] at hrd hrow
        rw [hM]
        have HMm := Lib.hid hM
        clear hM hE
        by_cases hlt : k < ss.length
        · obtain ⟨bb, off, rfl, hbb, hcs⟩ := hs.pos (by omega)
          have hg := List.getElem?_eq_getElem hlt
          obtain ⟨s, hsk⟩ : ∃ s, ss[k] = s := ⟨_, rfl⟩
          rw [hsk] at hg
          have hck := (hBw.cell (p := ⟨bb, off + k, none⟩) hbb).trans (hcs k s hg)
          have hsn := Nx.E2_snoc ss k hlt s hg
          have hmx : s.size ≤ maxLen := HSM.out s (by rw [← hsk]; exact List.getElem_mem hlt)
          have hmem : ∀ x ∈ ss.take (k + 1), x ∈ ss.take k ∨ x = s := by
            intro x hx
            rw [List.take_succ_eq_append_getElem hlt, hsk] at hx
            simpa using hx
          unfold maxLen at hmx
          have HSN := Lib.hid hsn
          have HM := Lib.hid hmem
          clear hsn hcs hg hsk hmem
          have hbz := hB.size
          by_cases h3 : s.size ≤ 300
          · have td3 : decide ((300 : Int) < (s.size : Int)) = false := by simp; omega
            clear hmx
            have hpl := Nx.put_len s.size (by omega)
            have hpp := Nx.put_pos s.size
            have hbl := Lib.hid (bs_len s)
            go_wp2_with fail
            refine (Text_any _ C cc s _ hrd hC (by omega) (by omega)).mono ?_
            rintro e w2 ⟨v2, rfl, hown2, hb2⟩
            go_wp2_with fail
            refine (lput_any s.size (by omega) _).mono ?_
            rintro e w3 ⟨v3, rfl, hown3, hb3⟩
            obtain ⟨A3, c3, rfl, _, _, _, hrd3⟩ := Rd.own hown3
            obtain ⟨b3, o3, rfl, hb3l, _⟩ := hrd3.pos (by omega)
            have hrow3 := own_keep (own_keep hrow hb2) hb3
            have hown23 := own_keep hown2 hb3
            have hsz2 := hb2.size
            have hsz3 := hb3.size
            go_wp2_with (first
              | (at_builtin; refine wpList_append_own_at _ rfl _ _ 25 rfl w1.heap.size 5 i0 (.int .u8 0) 1 1 Try.underlying25 hi hz0 hz1 hz2 rfl (by decide) u6 _ _ rfl hrow3 ⟨b3, o3, none⟩ (Nx.put s.size).length c3 ((Nx.put s.size).map (Value.int .u8)) rfl (by simp) hrd3.add (ints_one _) (by unfold maxLen; omega) (by omega) (by omega) ?_; intro v4 w4 hown4 hg4 hnn hat4; clear hnn)
              | (at_builtin; refine Lib.wpList_append_own_string _ rfl _ _ 25 9 rfl w1.heap.size 5 i0 Try.underlying25 Try.underlying9 hi hz0 hz1 hz2 v4 _ _ rfl hown4 s rfl (by unfold maxLen; omega) (by omega) (by have := hg4.size; omega) ?_; intro v5 w5 hown5 hg5 hnn; clear hnn))
            have hk2 := own_far hown23 hg4 (fun g h1 h2 => by have h3 := (hown2.lt g h1).1; have h4 := (hrow.lt g h2).2; omega)
            have hk3 := own_far hk2 hg5 (fun g h1 h2 => by
              have h3 := hown23.lt g h1
              rcases hat4 with h | h
              · rw [h] at h2; have h4 := (hrow.lt g h2).2; have h5 := (hown2.lt g h1).1; omega
              · rw [h] at h2; injection h2 with h2; omega)
            obtain ⟨A2, c2, rfl, hl2, _, hA2, hrd2⟩ := Rd.own hk3
            have hB4 : Below w1.heap.size w1 w4 := (hB.trans (hb2.mono (by omega))).trans (hb3.mono (by omega)) |>.grown hg4 (by omega) (fun j e => (hrow.lt j e).1)
            have hsn2 : N ++ Nx.E2 (ss.take (k + 1)) = M ++ (Nx.put s.size ++ bs s) := by rw [HSN.out, ← List.append_assoc, HMm.out]
            go_roundw
            case rel =>
              refine ⟨k + 1, A2, c2, by omega, by go_num, ?_, by rw [hsn2], by rw [hsn2]; exact hrd2, hA2, ?_, hB4.grown hg5 hB4.size (fun j e => (hown4.lt j e).1)⟩
              · intro x hx
                rcases HM.out x hx with h | h
                · exact HZ.out x h
                · rw [h]; exact h3
              · rw [hsn2, ← List.append_assoc, List.length_append, hbl.out, List.length_append, List.map_append, List.map_append, ← bs_cells]
                exact hown5
            case measure => simp [intOf]; omega
          · have td3 : decide ((300 : Int) < (s.size : Int)) = true := by simp; omega
            go_wp2
            go_ret
            exact ⟨rfl, hBw⟩
        · obtain rfl : k = ss.length := by omega
          rw [List.take_length] at HZ HMm
          clear hlt hk
          have hv1 := conv_any (P := Try.prog) (u := 9) (cap := cc) Try.underlying25 Try.underlying5 Try.underlying9 hrd
          have hv2 := str_own (P := Try.prog) Try.underlying25 Try.underlying5 Try.underlying9 hrow
          have tq : ((strOfNums M).toList != (strOfNums M).toList) = false := by simp
          have hMr : ∀ z ∈ M, 0 ≤ z ∧ z ≤ 255 := by
            rw [← HMm.out, ← HN.out]
            intro z hz
            rcases List.mem_append.1 hz with h | h
            · exact Nx.E1_rng _ z h
            · exact Nx.E2_rng _ z h
          have HMr := Lib.hid hMr
          clear hrow hMr
          go_wp2_with fail
          refine (Read_any M C _ cc _ hrd rfl).mono ?_
          rintro e wb ⟨g, rfl, hr0, hgl, hbb⟩
          have hBb : Below w.heap.size w wb := hBw.trans (hbb.mono hBw.size)
          have hgw : w.heap.size ≤ g := Nat.le_trans hBw.size hgl
          clear hv1 hv2 tq hrd hC hB hgl hbb
          go_wp2_with fail
          go_loopw [72] (fun i wr => ∃ (k : Nat) (rest : ByteArray), k ≤ ns.length ∧ i = .int .i64 k ∧ Rdr wr g rest 0 ∧ bs rest = Nx.E1 (ns.drop k) ++ Nx.E2 ss ∧ rest.size ≤ 10000 ∧ Below w.heap.size w wr)
            (fun i _ => ns.length - (intOf i).toNat)
          case atStart =>
            refine ⟨0, _, by omega, rfl, hr0, ?_, by rw [strOfNums_size]; omega, hBb⟩
            rw [bs_str HMr.out, List.drop_zero, HN.out, HMm.out]
          case round =>
            obtain ⟨k, rest, hk, rfl, hr, hbs, hrs, hBk⟩ := hrel
            by_cases hlt : k < ns.length
            · obtain ⟨bb, off, rfl, hbb, hcs⟩ := hn.pos (by omega)
              have hck := (hBk.cell (p := ⟨bb, off + k, none⟩) hbb).trans (hcs k hlt)
              have hx0 := HR.out _ (List.getElem_mem hlt)
              rw [List.drop_eq_getElem_cons hlt] at hbs
              rw [List.getElem?_eq_getElem hlt, Option.getD_some] at hck
              obtain ⟨x, hx⟩ : ∃ x, ns[k] = x := ⟨_, rfl⟩
              rw [hx] at hck hx0 hbs
              obtain ⟨y, rfl⟩ := Int.eq_ofNat_of_zero_le hx0.1
              have hbs2 : bs rest = Nx.put y ++ (Nx.E1 (ns.drop (k + 1)) ++ Nx.E2 ss) := by
                rw [hbs]; simp [Nx.E1]
              obtain ⟨rest', hns, hbs'⟩ := numS_put rest y (by omega) _ hbs2 18446744073709551615 (by omega)
              have hnum := Num_any g rest 18446744073709551615 wr hr (by omega)
              have hrs' := numS_size rest 18446744073709551615
              rw [hns] at hnum hrs'
              have hrs2 : rest'.size ≤ 10000 := by simp only at hrs'; omega
              have HNUM := Lib.hid hnum
              have HB2 := Lib.hid hbs'
              clear hcs hx hx0 hbs hbs2 hns hnum hbs' hrs'
              have ty : ((y : Int) != (y : Int)) = false := by simp
              go_wp2_with fail
              refine (show Calls Try.prog 17 #[.pointer (some ⟨g, 0, none⟩), .int .u64 18446744073709551615] wr _ from HNUM.out).mono ?_
              rintro e w2 ⟨rfl, hr2, hg2⟩
              go_wp2
              go_roundw
              case rel => exact ⟨k + 1, rest', by omega, by go_num, hr2, HB2.out, hrs2, hBk.grown hg2 hBk.size (fun j e => by cases e; exact hgw)⟩
              case measure => simp [intOf]; omega
            · obtain rfl : k = ns.length := by omega
              rw [List.drop_length] at hbs
              have hbs2 : bs rest = Nx.E2 ss := by rw [hbs]; rfl
              have HB2 := Lib.hid hbs2
              clear hbs hbs2 hk hlt
              obtain ⟨wc, rfl⟩ : ∃ wc, wr = wc := ⟨_, rfl⟩
              go_wp2_with fail
              go_loopw [83] (fun i wr => ∃ (k : Nat) (rest : ByteArray), k ≤ ss.length ∧ i = .int .i64 k ∧ Rdr wr g rest 0 ∧ bs rest = Nx.E2 (ss.drop k) ∧ rest.size ≤ 10000 ∧ Below w.heap.size w wr)
                (fun i _ => ss.length - (intOf i).toNat)
              case atStart => exact ⟨0, _, by omega, rfl, hr, by rw [HB2.out, List.drop_zero], hrs, hBk⟩
              case round =>
                obtain ⟨k, rest, hk, rfl, hr, hbs, hrs, hBk⟩ := hrel
                by_cases hlt : k < ss.length
                · obtain ⟨bb, off, rfl, hbb, hcs⟩ := hs.pos (by omega)
                  have hck := (hBk.cell (p := ⟨bb, off + k, none⟩) hbb).trans (hcs k _ (List.getElem?_eq_getElem hlt))
                  have hx0 := HZ.out _ (List.getElem_mem hlt)
                  rw [List.drop_eq_getElem_cons hlt] at hbs
                  obtain ⟨s, hsk⟩ : ∃ s, ss[k] = s := ⟨_, rfl⟩
                  rw [hsk] at hck hx0 hbs
                  have hbs2 : bs rest = Nx.put s.size ++ (bs s ++ Nx.E2 (ss.drop (k + 1))) := by
                    rw [hbs]; simp [Nx.E2]
                  obtain ⟨rest', hns, hbs'⟩ := textS_put rest s (by omega) _ hbs2
                  have htx := Text_any' g rest s.size s.size wr hr (by omega) (by omega) (by omega)
                  rw [hns] at htx
                  have hrs2 : rest'.size ≤ 10000 := by
                    have e1 := congrArg List.length hbs2
                    have e2 := congrArg List.length hbs'
                    simp [bs_len] at e1 e2
                    omega
                  have HT := Lib.hid htx
                  have HB3 := Lib.hid hbs'
                  clear hcs hbs hbs2 hns htx hbs' hsk
                  have ty : (s.toList != s.toList) = false := by simp
                  go_wp2_with fail
                  refine HT.out.mono ?_
                  rintro e w2 ⟨rfl, hr2, hg2⟩
                  go_wp2
                  go_roundw
                  case rel => exact ⟨k + 1, rest', by omega, by go_num, hr2, HB3.out, hrs2, hBk.grown hg2 hBk.size (fun j e => by cases e; exact hgw)⟩
                  case measure => simp [intOf]; omega
                · obtain rfl : k = ss.length := by omega
                  rw [List.drop_length] at hbs
                  have hr0 : rest.size = 0 := by rw [← bs_len, hbs]; rfl
                  have hrz : ((rest.size : Int) == 0) = true := by simp [hr0]
                  have HR0 := Lib.hid hr0
                  clear hbs hr0 hk hlt
                  go_wp2_with (first
                    | (go_at_call 19; refine (End_ok g rest _ hr HR0.out).mono ?_; rintro e w' ⟨rfl, rfl⟩)
                    | (go_at_call 20; refine (Left_any g rest 0 _ hr).mono ?_; rintro e w' ⟨rfl, rfl⟩)
                    | (go_at_call 21; refine (Err_any g rest 0 _ hr).mono ?_; rintro e w' ⟨rfl, rfl⟩))
                  go_ret
                  exact ⟨rfl, hBk⟩

end Go.Proofs.Ytfjbelkpblgfiaa
