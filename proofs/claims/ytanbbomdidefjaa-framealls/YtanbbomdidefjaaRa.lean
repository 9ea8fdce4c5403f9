/- The iterator over the frames with which bytes begin. -/
import Derived.Test.YtanbbomdidefjaaFw
import Derived.Test.YtanbbomdidefjaaRf
import Derived.BigRegionIn
import Derived.LoopIn
import Derived.LoopNIn
namespace Go.Proofs.Ytanbbomdidefjaa
open Go.RowKit Go.Shelf
attribute [local go_sem] Oper.semAt_some

/-- the frames with which bytes begin from a place on, each with the place behind it, and why there is no more -/
def Chain (c : List Int) : Nat → List (Nat × List Int) → Int → Prop
  | p, [], k => p ≤ c.length ∧ nextP (c.drop p) = .error k ∧ k ≠ 0
  | p, y :: ys, k => ∃ sz, p + sz ≤ c.length ∧ 0 < sz ∧ nextP (c.drop p) = .ok (y.2, sz) ∧ y.1 = p + sz ∧ Chain c y.1 ys k
theorem Chain.le {c : List Int} : ∀ {ys : List (Nat × List Int)} {p : Nat} {k : Int}, Chain c p ys k → p ≤ c.length
  | [], p, k, h => h.1
  | y :: ys, p, k, h => by
    obtain ⟨sz, h1, _⟩ := h
    omega
theorem Chain.len {c : List Int} : ∀ {ys : List (Nat × List Int)} {p : Nat} {k : Int}, Chain c p ys k → ys.length ≤ c.length - p
  | [], p, k, h => by simp
  | y :: ys, p, k, h => by
    obtain ⟨sz, h1, h2, h3, h4, h5⟩ := h
    have := Chain.len h5
    simp only [List.length_cons]
    omega

abbrev Yd := Nat × (Value × List Int)
abbrev yf (x : Yd) : Nat × List Int := (x.1, x.2.2)
/-- the data that is handed over lies there -/
structure YR (x : Yd) (W : World) : Prop where
  row : W.ownsRow 0 5 1 x.2.1 x.2.2.length (x.2.2.map (Value.int .u8))
  b8 : Byte8 x.2.2
abbrev encY (x : Yd) : Array Value := #[.int .i64 x.1, x.2.1]
/-- what the iterator reads -/
structure SrcF (B0 : Nat) (A : Option Addr) (cap : Nat) (c : List Int) (W : World) : Prop where
  box : W.heap[B0]? = some (.cells #[.slice A c.length cap] 24 (0, 0))
  rd : Rd W .u8 A c
theorem Rd.blocks {W W' : World} {k : IntKind} {A : Option Addr} {xs : List Int} (h : Rd W k A xs) (hs : W.heap.size ≤ W'.heap.size) (hb : ∀ ad, A = some ad → ad.block < W.heap.size → W'.heap[ad.block]? = W.heap[ad.block]?) : Rd W' k A xs := by
  rcases h with h | ⟨b, off, rfl, hl, h⟩
  · exact .inl h
  · exact .inr ⟨b, off, rfl, by omega, fun i hi => (World.cell?_of_block (a := ⟨b, off + i, none⟩) (hb ⟨b, off, none⟩ rfl hl)).trans (h i hi)⟩
theorem SrcF.below {B0 : Nat} {A : Option Addr} {cap : Nat} {c : List Int} {W W' : World} (h : SrcF B0 A cap c W) (hb : Below W.heap.size W W') : SrcF B0 A cap c W' :=
  ⟨(hb.block B0 (Array.getElem?_eq_some_iff.1 h.box).1).trans h.box, h.rd.below hb⟩
theorem rd_drop {W : World} {A : Option Addr} {c : List Int} (h : Rd W .u8 A c) (b off p : Nat) (hA : A = some ⟨b, off, none⟩) : Rd W .u8 (some ⟨b, off + p, none⟩) (c.drop p) := by
  rcases h with rfl | ⟨b', off', hA', hl, h⟩
  · left; simp
  · rw [hA] at hA'
    injection hA' with hA'
    injection hA' with h1 h2
    subst h1 h2
    by_cases hp : p < c.length
    · refine .inr ⟨b, off + p, rfl, hl, fun i hi => ?_⟩
      rw [List.length_drop] at hi
      rw [Nat.add_assoc, h (p + i) (by omega)]
      simp
    · left
      exact List.drop_eq_nil_of_le (by omega)

theorem Next_ok (b : List Int) (A : Option Addr) (cap : Nat) (d : List Int) (sz : Nat) (w : World) (hb : Rd w .u8 A b) (h8 : Byte8 b) (hcap : b.length ≤ cap) (hcm : cap ≤ maxLen) (hl : b.length ≤ 10000000) (hn : nextP b = .ok (d, sz)) :
    Calls Try.prog 16 #[.slice A b.length cap] w fun e w' => ∃ v, e = .returned (.tuple #[v, .int .i64 sz, .int .i64 0]) ∧ w'.ownsRow w.heap.size 5 1 v d.length (d.map (Value.int .u8)) ∧ Below w.heap.size w w' := by
  refine (Next_any b A cap w hb h8 hcap hcm hl).mono ?_
  rintro e w' ⟨h1, h2⟩
  rw [hn] at h2
  obtain ⟨v, h3, h4⟩ := h2
  exact ⟨v, h3, h4, h1⟩
theorem next_byte8 {b d : List Int} {sz : Nat} (h : nextP b = .ok (d, sz)) (h8 : Byte8 b) : Byte8 d := by
  unfold nextP at h
  split at h
  · cases h
  · split at h
    · cases h
    · split at h
      · injection h with h
        injection h with h1 h2
        rw [← h1]
        exact (h8.drop _).take _
      · cases h
theorem own_zero {W : World} {base n : Nat} {e : TypeId} {v : Value} {xs : List Value} (h : W.ownsRow base e 1 v n xs) : W.ownsRow 0 e 1 v n xs := own_base h (Nat.zero_le _)

theorem cells_of_cell {W : World} {b off : Nat} {v : Value} (h : W.cell? ⟨b, off, none⟩ = some v) : ∃ cs t z, W.heap[b]? = some (.cells cs t z) := by
  unfold World.cell? at h
  cases hb : W.heap[b]? with
  | none => simp [hb] at h
  | some o => cases o <;> simp_all

set_option maxRecDepth 100000 in
set_option maxHeartbeats 1000000 in
theorem iterF_in (n : Nat) (hn : 1 ≤ n) (l : Nat) (B0 : Nat) (A : Option Addr) (cap : Nat) (c : List Int) (ys : List (Nat × List Int)) (k : Int) (J Jx : List Yd → World → Prop) (h8 : Byte8 c) (hcap : c.length ≤ cap) (hcm : cap ≤ maxLen) (hl : c.length ≤ 10000000) (hch : Chain c 0 ys k)
    (hAn : A = none → cap = 0) (hA0 : ∀ ad, A = some ad → ad.spot = none)
    (hJb : ∀ pre W W', J pre W → Below W.heap.size W W' → J pre W')
    (hY : ∀ pre x W, J pre W → pre.length < ys.length → YR x W → YieldAt Fence.wide (n - 1) Try.prog l (encY x) W fun e W' =>
      (e = .returned (.bool true) ∧ J (pre ++ [x]) W' ∧ (SrcF B0 A cap c W → SrcF B0 A cap c W')) ∨ (e = .returned (.bool false) ∧ Jx (pre ++ [x]) W'))
    (W : World) (hS : SrcF B0 A cap c W) (h0 : J [] W) :
    CallsIn Fence.wide n Try.prog 24 #[.func (.yield l) #[] #[], .pointer (some ⟨B0, 0, none⟩)] W fun e W' => (∃ v, e = .returned v) ∧
      ((∃ xs : List Yd, xs.map yf = ys ∧ J xs W') ∨ (∃ pre : List Yd, pre.map yf <+: ys ∧ Jx pre W')) := by
  refine callsIn_of_wp Try.func24 rfl trivial ?_ rfl
  simp only [Try.ntmps24, List.size_toArray, List.length_cons, List.length_nil, Nat.reduceAdd, Nat.reduceSub, Array.replicate_succ, Array.replicate_zero, List.push_toArray, List.append_toArray, List.nil_append, List.cons_append]
  have HC := Lib.hid hch
  clear hch
  unfold maxLen at hcm
  gi_wp2
  gi_loopw [3] (fun i wr => ∃ (p : Nat) (pre : List Yd) (zs : List (Nat × List Int)), i = .int .i64 p ∧ p ≤ c.length ∧ Hid (Chain c p zs k) ∧ Hid (ys = pre.map yf ++ zs) ∧ SrcF B0 A cap c wr ∧ Hid (J pre wr))
    (fun i _ => c.length - (intOf i).toNat)
  case atStart => exact ⟨0, [], ys, rfl, by omega, HC, Lib.hid rfl, hS, Lib.hid h0⟩
  case round =>
    obtain ⟨p, pre, zs, rfl, hp, HZ, HYS, hs, HJ⟩ := hrel
    have hbox : wr.cell? ⟨B0, 0, none⟩ = some (.slice A c.length cap) := by rw [cell_of_row wr _ _ _ _ _ hs.box]; rfl
    have HS := Lib.hid hs
    have hd8 := h8.drop p
    have hdl : (c.drop p).length = c.length - p := by simp
    clear hs
    cases zs with
    | nil =>
      obtain ⟨_, hne, hk⟩ := HZ.out
      have hkd : (k != 0) = true := by simpa using hk
      have fin : ∀ (A' : Option Addr) (cp : Nat), Rd wr .u8 A' (c.drop p) → cp = cap - p → Calls Try.prog 16 #[.slice A' (c.length - p) cp] wr fun e w' => e = .returned (.tuple #[.slice none 0 0, .int .i64 0, .int .i64 k]) ∧ Below wr.heap.size wr w' := fun A' cp hr hcp => by
        have := Next_err (c.drop p) A' cp k wr hr hd8 (by omega) (by unfold maxLen; omega) (by omega) hne
        rwa [hdl] at this
      have HF := Lib.hid fin
      clear fin hk hne hd8 hdl
      by_cases hce : cap = p
      · have hr0 : ∀ A', Rd wr .u8 A' (c.drop p) := fun A' => .inl (List.drop_eq_nil_of_le (by omega))
        have HR0 := Lib.hid hr0
        clear hr0
        gi_wp2_with (refine ⟨trivial, ?_⟩; gi_at_call 16; refine (callsIn_wide.2 (HF.out _ _ (HR0.out _) (by omega))).mono ?_; rintro e w' ⟨rfl, hb'⟩)
        refine bodyPost_ret (results_none rfl _ _ _) rfl ?_
        exact ⟨⟨_, rfl⟩, .inl ⟨pre, by have := HYS.out; rw [List.append_nil] at this; exact this.symm, hJb _ _ _ HJ.out hb'⟩⟩
      · obtain ⟨b, off, hA⟩ : ∃ b off, A = some ⟨b, off, none⟩ := by
          cases A with
          | none => have := hAn rfl; omega
          | some ad =>
            obtain ⟨b, off, sp⟩ := ad
            have := hA0 _ rfl
            simp at this
            subst this
            exact ⟨b, off, rfl⟩
        subst hA
        have HR0 := Lib.hid (rd_drop HS.out.rd b off p rfl)
        gi_wp2_with (refine ⟨trivial, ?_⟩; gi_at_call 16; refine (callsIn_wide.2 (HF.out _ _ HR0.out (by omega))).mono ?_; rintro e w' ⟨rfl, hb'⟩)
        refine bodyPost_ret (results_none rfl _ _ _) rfl ?_
        exact ⟨⟨_, rfl⟩, .inl ⟨pre, by have := HYS.out; rw [List.append_nil] at this; exact this.symm, hJb _ _ _ HJ.out hb'⟩⟩
    | cons y zs =>
      obtain ⟨sz, hle, hpos, hok, hy1, hrest⟩ := HZ.out
      obtain ⟨ye, d⟩ := y
      simp only at hy1 hok hrest
      subst hy1
      have hce : ¬ cap = p := by omega
      obtain ⟨b, off, hA⟩ : ∃ b off, A = some ⟨b, off, none⟩ := by
        cases A with
        | none => have := hAn rfl; omega
        | some ad =>
          obtain ⟨b, off, sp⟩ := ad
          have := hA0 _ rfl
          simp at this
          subst this
          exact ⟨b, off, rfl⟩
      subst hA
      have fin : Calls Try.prog 16 #[.slice (some ⟨b, off + p, none⟩) (c.length - p) (cap - p)] wr fun e w' => ∃ v, e = .returned (.tuple #[v, .int .i64 sz, .int .i64 0]) ∧ w'.ownsRow wr.heap.size 5 1 v d.length (d.map (Value.int .u8)) ∧ Below wr.heap.size wr w' := by
        have := Next_ok (c.drop p) (some ⟨b, off + p, none⟩) (cap - p) d sz wr (rd_drop HS.out.rd b off p rfl) hd8 (by omega) (by unfold maxLen; omega) (by omega) hok
        rwa [hdl] at this
      have HF := Lib.hid fin
      have HRS := Lib.hid hrest
      have HB8 := Lib.hid (next_byte8 hok hd8)
      clear fin hok hrest hd8 hdl HZ
      have hpl : pre.length < ys.length := by have := congrArg List.length HYS.out; simp at this; omega
      gi_wp2_with (refine ⟨trivial, ?_⟩; gi_at_call 16; refine (callsIn_wide.2 HF.out).mono ?_; rintro e w' ⟨v, rfl, ho, hb'⟩; obtain ⟨fn, tmps, assign, body, hy, hR⟩ := hY pre (p + sz, v, d) w' (hJb _ _ _ HJ.out hb') hpl ⟨own_zero ho, HB8.out⟩; simp only [encY, Int.natCast_add] at hy)
      refine hR.mono ?_
      rintro e W3 (⟨rfl, hJ3, hk3⟩ | ⟨rfl, hJx3⟩)
      · have hs3 := hk3 (HS.out.below hb')
        have HJ3 := Lib.hid hJ3
        clear hk3 hJ3 hR hy
        gi_wp2
        go_roundw
        case rel => exact ⟨p + sz, pre ++ [(p + sz, v, d)], zs, by go_num, hle, HRS, Lib.hid (by rw [HYS.out]; simp), hs3, HJ3⟩
        case measure => simp [intOf]; omega
      · clear hR hy
        gi_wp2
        refine bodyPost_ret (results_none rfl _ _ _) rfl ?_
        exact ⟨⟨_, rfl⟩, .inr ⟨_, by rw [HYS.out, List.map_append]; exact List.prefix_append_right_inj _ |>.2 (by simp), hJx3⟩⟩

theorem iterF_stops (B0 : Nat) (A : Option Addr) (cap : Nat) (c : List Int) (ys : List (Nat × List Int)) (k : Int) (h8 : Byte8 c) (hcap : c.length ≤ cap) (hcm : cap ≤ maxLen) (hl : c.length ≤ 10000000) (hch : Chain c 0 ys k)
    (hAn : A = none → cap = 0) (hA0 : ∀ ad, A = some ad → ad.spot = none) (w : World) (hS : SrcF B0 A cap c w) :
    SeqR 8 Try.prog 24 #[.pointer (some ⟨B0, 0, none⟩)] encY YR (fun W W' => SrcF B0 A cap c W → SrcF B0 A cap c W') (fun xs => xs.map yf = ys) (fun pre => pre.map yf <+: ys) ys.length w :=
  fun l J Jx W hW hJ _ hY h0 => iterF_in 8 (by omega) l B0 A cap c ys k J Jx h8 hcap hcm hl hch hAn hA0 (fun pre W1 W2 h hb => hJ pre W1 W2 none h (grown_of_below hb) (fun r e => by cases e)) hY W (hS.below hW) h0
theorem srcF_kt {B0 : Nat} {A : Option Addr} {cap : Nat} {c : List Int} : ∀ {X Y Z : World}, (SrcF B0 A cap c X → SrcF B0 A cap c Y) → (SrcF B0 A cap c Y → SrcF B0 A cap c Z) → (SrcF B0 A cap c X → SrcF B0 A cap c Z) := fun h k x => k (h x)
/-- what is no row of cells may turn -/
theorem srcF_kb {B0 : Nat} {A : Option Addr} {cap : Nat} {c : List Int} (W : World) (l : Nat) (o o' : Obj) (hl : W.heap[l]? = some o) (ho : o.isCells = false) : SrcF B0 A cap c W → SrcF B0 A cap c (W.putObj l o') := by
  intro h
  have hg := grownBy_putObj' W l o'
  refine ⟨(hg.block B0 (Array.getElem?_eq_some_iff.1 h.box).1 ?_).trans h.box, ?_⟩
  · intro e
    injection e with e
    subst e
    have := h.box
    rw [hl] at this
    cases this
    cases ho
  · by_cases hpos : 0 < c.length
    case neg => exact .inl (List.eq_nil_of_length_eq_zero (by omega))
    obtain ⟨b, off, hA, hb, hc⟩ := h.rd.pos hpos
    refine h.rd.blocks hg.size (fun ad had hlt => hg.block _ hlt ?_)
    intro e
    injection e with e
    rw [hA] at had
    injection had with had
    subst had
    simp only at e
    subst e
    have := hc 0 hpos
    have hcl := cells_of_cell this
    rw [hl] at hcl
    obtain ⟨cs, t, z, e2⟩ := hcl
    cases e2
    cases ho
theorem yr_kb (x : Yd) (W : World) (l : Nat) (o o' : Obj) (h : YR x W) (hl : W.heap[l]? = some o) (ho : o.isCells = false) : YR x (W.putObj l o') := by
  refine ⟨h.row.kept (grownBy_putObj' W l o') ?_, h.b8⟩
  rcases h.row.2 with ⟨hv, _⟩ | ⟨g, cap, cur, hv, _, hg, _⟩
  · left; rw [hv]; rfl
  · right
    rw [hv]
    intro e
    simp only [Value.ownBlock, Option.some.injEq] at e
    subst e
    rw [hl] at hg
    cases hg
    cases ho
end Go.Proofs.Ytanbbomdidefjaa
