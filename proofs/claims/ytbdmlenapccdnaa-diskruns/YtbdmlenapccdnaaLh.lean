/- DiskRuns, the first piece: what the law wants. -/
import Derived.Test.YtbdmlenapccdnaaJoin8
import Derived.Deep.QuietTactic
import Derived.Deep.RegionHeld3
import Derived.BigQuiet
namespace Go.Proofs.Ytbdmlenapccdnaa
open Go.RowKit

def opL (o : OpV) : List Value := (opCells o).toList
/-- the law's own state -/
structure Lw (w1 W : World) (Q : Nat → Prop) (B : Ab) (wt : List OpV) (gn cn gs cs : Nat) (v9 : Value) : Prop where
  now : FlV W gn cn B.now
  qn : Q gn
  safe : FlV W gs cs B.safe
  qs : Q gs
  wait : W.ownsRow 0 30 6 v9 wt.length (wt.flatMap opL)
  qw : ∀ k, v9.ownBlock = some k → Q k
  pend : B.pend = wt.map acOf
  wok : ∀ o ∈ wt, Wt w1 o
theorem Lw.keep {w1 W W' : World} {Q : Nat → Prop} {B : Ab} {wt : List OpV} {gn cn gs cs : Nat} {v9 : Value} (h : Lw w1 W Q B wt gn cn gs cs v9) (hf : Fr (fun _ => False) W W') : Lw w1 W' Q B wt gn cn gs cs v9 :=
  ⟨h.now.fr hf (fun h => h), h.qn, h.safe.fr hf (fun h => h), h.qs, own_fr h.wait hf (fun _ _ h => h), h.qw, h.pend, h.wok⟩
theorem Lw.blk {w1 W W' : World} {Q : Nat → Prop} {B : Ab} {wt : List OpV} {gn cn gs cs : Nat} {v9 : Value} (h : Lw w1 W Q B wt gn cn gs cs v9) (hQ : ∀ k, Q k → W'.heap[k]? = W.heap[k]?) : Lw w1 W' Q B wt gn cn gs cs v9 := by
  have ofB : ∀ {v : Value} {n sz : Nat} {e : TypeId} {xs : List Value}, W.ownsRow 0 e sz v n xs → (∀ k, v.ownBlock = some k → Q k) → W'.ownsRow 0 e sz v n xs := by
    intro v n sz e xs hw hq
    refine ⟨hw.1, ?_⟩
    rcases hw.2 with hn | ⟨g, cap, cur, rfl, hb, hgg, rest⟩
    · exact .inl hn
    · exact .inr ⟨g, cap, cur, rfl, hb, (hQ g (hq g rfl)).trans hgg, rest⟩
  exact ⟨ofB h.now (fun k e => by cases e; exact h.qn), h.qn, ofB h.safe (fun k e => by cases e; exact h.qs), h.qs, ofB h.wait h.qw, h.qw, h.pend, h.wok⟩
theorem Lw.sub {w1 W : World} {Q Q' : Nat → Prop} {B : Ab} {wt : List OpV} {gn cn gs cs : Nat} {v9 : Value} (h : Lw w1 W Q B wt gn cn gs cs v9) (hQ : ∀ k, Q k → Q' k) : Lw w1 W Q' B wt gn cn gs cs v9 :=
  ⟨h.now, hQ _ h.qn, h.safe, hQ _ h.qs, h.wait, fun k e => hQ k (h.qw k e), h.pend, h.wok⟩

/-- behind the first piece -/
def IA (room most : Int) (O : Option Addr) (n co d : Nat) (F : Nat → Value) (want : Int) (W : World) (a : Act) (W' : World) : Prop :=
  ∃ F', a = ⟨frm room most O n co d F', []⟩ ∧ F' 7 = F 7 ∧ F' 8 = F 8 ∧ F' 9 = F 9 ∧ F' 10 = F 10 ∧ F' 11 = F 11 ∧ F' 12 = F 12 ∧ F' 13 = F 13 ∧ F' 14 = F 14 ∧ F' 15 = .int .i64 want ∧ Fr (fun _ => False) W W'
theorem IA_mk {room most : Int} {O : Option Addr} {n co d : Nat} {F : Nat → Value} {want : Int} {W W' : World} {t : Array Value} (h : slots room most O n co d t) (h7 : t.getD 7 undef = F 7) (h8 : t.getD 8 undef = F 8) (h9 : t.getD 9 undef = F 9) (h10 : t.getD 10 undef = F 10) (h11 : t.getD 11 undef = F 11) (h12 : t.getD 12 undef = F 12) (h13 : t.getD 13 undef = F 13) (h14 : t.getD 14 undef = F 14) (h15 : t.getD 15 undef = .int .i64 want) (hf : Fr (fun _ => False) W W') : IA room most O n co d F want W ⟨t, []⟩ W' :=
  ⟨_, by rw [← frm_of h], h7, h8, h9, h10, h11, h12, h13, h14, h15, hf⟩

structure HypA (F : Nat → Value) (W : World) (ob gn cn : Nat) (o : OpV) (A : Ab) : Prop where
  e7 : F 7 = .slice (some ⟨gn, 0, none⟩) A.now.length cn
  e11 : F 11 = .bool A.off
  e14 : F 14 = .pointer (some ⟨ob, 0, none⟩)
  e15 : F 15 = .int .i64 0
  e17 : F 17 = .bool (lk A.now o.s).isSome
  hC : Cel W ob 30 (opCells o)
  hN : FlV W gn cn A.now
  hl : A.now.length ≤ 1000000
  hu : (used A.now : Int) ≤ A.room
  hr : A.room ≤ 16777216
  hs : o.s.size ≤ maxLen
  ht : o.t.size ≤ maxLen

set_option maxRecDepth 100000 in
set_option maxHeartbeats 2000000 in
theorem sgA_none (Q : Exit → Act → World → Prop) (room : Int) (O : Option Addr) (n co d : Nat) (F : Nat → Value) (W : World) (ob gn cn : Nat) (o : OpV) (A : Ab) (h : HypA F W ob gn cn o A) (hk : o.k = 5 ∨ o.k = 6 ∨ o.k < 0 ∨ 6 < o.k) :
    Code.wp Try.prog pA (Exit.then (IA room A.room O n co d F (want1 A o) W) Q) ⟨frm room A.room O n co d F, []⟩ W := by
  obtain ⟨e7, e11, e14, e15, e17, hC, hN, hl, hu, hr, hs, ht⟩ := h
  have x0 := hC.cell 0
  have x1 := hC.cell 1
  have x2 := hC.cell 2
  have x3 := hC.cell 3
  simp [opCells] at x0 x1 x2 x3
  have hw : want1 A o = 0 := by unfold want1; rw [if_pos hk]
  rw [hw]
  have HK := Lib.hid hk
  clear hk hw
  unfold frm
  rw [e7, e14, e11, e15, e17]
  conv => arg 2; whnf
  go_wp2_with fail
  all_goals first
    | exact IA_mk ⟨rfl, rfl, rfl, rfl, rfl⟩ e7.symm rfl rfl rfl e11.symm rfl rfl e14.symm rfl (Fr.refl _ _)
    | (exfalso; have := HK.out; simp at *; omega)

set_option maxRecDepth 100000 in
set_option maxHeartbeats 2000000 in
theorem sgA_3 (Q : Exit → Act → World → Prop) (room : Int) (O : Option Addr) (n co d : Nat) (F : Nat → Value) (W : World) (ob gn cn : Nat) (o : OpV) (A : Ab) (h : HypA F W ob gn cn o A) (hk : o.k = 3) :
    Code.wp Try.prog pA (Exit.then (IA room A.room O n co d F (want1 A o) W) Q) ⟨frm room A.room O n co d F, []⟩ W := by
  obtain ⟨e7, e11, e14, e15, e17, hC, hN, hl, hu, hr, hs, ht⟩ := h
  have x0 := hC.cell 0
  have x1 := hC.cell 1
  have x2 := hC.cell 2
  have x3 := hC.cell 3
  simp [opCells] at x0 x1 x2 x3
  rw [hk] at x0
  cases ho : A.off
  · have hw : want1 A o = 0 := by simp [want1, hk, ho]
    rw [hw]
    rw [ho] at e11
    unfold frm
    rw [e7, e14, e11, e15, e17]
    conv => arg 2; whnf
    clear hw hk
    go_wp2
    go_quiet (fail)
    go_wp2
    exact IA_mk ⟨rfl, rfl, rfl, rfl, rfl⟩ e7.symm rfl rfl rfl e11.symm rfl rfl e14.symm rfl (Fr.drewN _ _ _)
  · have hw : want1 A o = 10 := by simp [want1, hk, ho]
    rw [hw]
    rw [ho] at e11
    unfold frm
    rw [e7, e14, e11, e15, e17]
    conv => arg 2; whnf
    clear hw hk
    go_wp2
    exact IA_mk ⟨rfl, rfl, rfl, rfl, rfl⟩ e7.symm rfl rfl rfl e11.symm rfl rfl e14.symm rfl (Fr.refl _ _)

set_option maxRecDepth 100000 in
set_option maxHeartbeats 2000000 in
theorem sgA_1 (Q : Exit → Act → World → Prop) (room : Int) (O : Option Addr) (n co d : Nat) (F : Nat → Value) (W : World) (ob gn cn : Nat) (o : OpV) (A : Ab) (h : HypA F W ob gn cn o A) (hk : o.k = 1) :
    Code.wp Try.prog pA (Exit.then (IA room A.room O n co d F (want1 A o) W) Q) ⟨frm room A.room O n co d F, []⟩ W := by
  obtain ⟨e7, e11, e14, e15, e17, hC, hN, hl, hu, hr, hs, ht⟩ := h
  have x0 := hC.cell 0
  have x1 := hC.cell 1
  have x2 := hC.cell 2
  have x3 := hC.cell 3
  simp [opCells] at x0 x1 x2 x3
  rw [hk] at x0
  cases hn : Dx.name o.s
  · have hw : want1 A o = 1 := by simp [want1, hk, hn]
    rw [hw]
    cases hnt : Dx.name o.t
    all_goals
      unfold frm
      rw [e7, e14, e11, e15, e17]
      conv => arg 2; whnf
      clear hw hk
      go_wp2_with (first
        | (go_at_call_of 10 (Value.string o.s); refine (lnamed_any o.s _ hs).mono ?_; rw [hn]; rintro e w' ⟨rfl, rfl⟩)
        | (go_at_call_of 10 (Value.string o.t); refine (lnamed_any o.t _ ht).mono ?_; rw [hnt]; rintro e w' ⟨rfl, rfl⟩))
      exact IA_mk ⟨rfl, rfl, rfl, rfl, rfl⟩ e7.symm rfl rfl rfl e11.symm rfl rfl e14.symm rfl (Fr.refl _ _)
  · cases hnt : Dx.name o.t
    · have hw : want1 A o = 1 := by simp [want1, hk, hn, hnt]
      rw [hw]
      unfold frm
      rw [e7, e14, e11, e15, e17]
      conv => arg 2; whnf
      clear hw hk
      go_wp2_with (first
        | (go_at_call_of 10 (Value.string o.s); refine (lnamed_any o.s _ hs).mono ?_; rw [hn]; rintro e w' ⟨rfl, rfl⟩)
        | (go_at_call_of 10 (Value.string o.t); refine (lnamed_any o.t _ ht).mono ?_; rw [hnt]; rintro e w' ⟨rfl, rfl⟩))
      exact IA_mk ⟨rfl, rfl, rfl, rfl, rfl⟩ e7.symm rfl rfl rfl e11.symm rfl rfl e14.symm rfl (Fr.refl _ _)
    · cases ho : A.off
      · cases hth : (lk A.now o.s).isSome
        · have hw : want1 A o = 4 := by
            have : lk A.now o.s = none := by simpa using hth
            simp [want1, hk, hn, ho, this, hnt]
          rw [hw]
          rw [ho] at e11
          rw [hth] at e17
          unfold frm
          rw [e7, e14, e11, e15, e17]
          conv => arg 2; whnf
          clear hw hk
          go_wp2_with (first
              | (go_at_call_of 10 (Value.string o.s); refine (lnamed_any o.s _ hs).mono ?_; rw [hn]; rintro e w' ⟨rfl, rfl⟩)
              | (go_at_call_of 10 (Value.string o.t); refine (lnamed_any o.t _ ht).mono ?_; rw [hnt]; rintro e w' ⟨rfl, rfl⟩))
          go_quiet (fail)
          go_wp2
          exact IA_mk ⟨rfl, rfl, rfl, rfl, rfl⟩ e7.symm rfl rfl rfl e11.symm rfl rfl e14.symm rfl (Fr.drewN _ _ _)
        · have hw : want1 A o = 0 := by
            have : lk A.now o.s ≠ none := by intro e; rw [e] at hth; cases hth
            simp [want1, hk, hn, ho, this, hnt]
          rw [hw]
          rw [ho] at e11
          rw [hth] at e17
          unfold frm
          rw [e7, e14, e11, e15, e17]
          conv => arg 2; whnf
          clear hw hk
          go_wp2_with (first
              | (go_at_call_of 10 (Value.string o.s); refine (lnamed_any o.s _ hs).mono ?_; rw [hn]; rintro e w' ⟨rfl, rfl⟩)
              | (go_at_call_of 10 (Value.string o.t); refine (lnamed_any o.t _ ht).mono ?_; rw [hnt]; rintro e w' ⟨rfl, rfl⟩))
          go_quiet (fail)
          go_wp2
          exact IA_mk ⟨rfl, rfl, rfl, rfl, rfl⟩ e7.symm rfl rfl rfl e11.symm rfl rfl e14.symm rfl (Fr.drewN _ _ _)
      · have hw : want1 A o = 10 := by simp [want1, hk, hn, ho, hnt]
        rw [hw]
        rw [ho] at e11
        unfold frm
        rw [e7, e14, e11, e15, e17]
        conv => arg 2; whnf
        clear hw hk
        go_wp2_with (first
              | (go_at_call_of 10 (Value.string o.s); refine (lnamed_any o.s _ hs).mono ?_; rw [hn]; rintro e w' ⟨rfl, rfl⟩)
              | (go_at_call_of 10 (Value.string o.t); refine (lnamed_any o.t _ ht).mono ?_; rw [hnt]; rintro e w' ⟨rfl, rfl⟩))
        exact IA_mk ⟨rfl, rfl, rfl, rfl, rfl⟩ e7.symm rfl rfl rfl e11.symm rfl rfl e14.symm rfl (Fr.refl _ _)

set_option maxRecDepth 100000 in
set_option maxHeartbeats 2000000 in
theorem sgA_2 (Q : Exit → Act → World → Prop) (room : Int) (O : Option Addr) (n co d : Nat) (F : Nat → Value) (W : World) (ob gn cn : Nat) (o : OpV) (A : Ab) (h : HypA F W ob gn cn o A) (hk : o.k = 2) :
    Code.wp Try.prog pA (Exit.then (IA room A.room O n co d F (want1 A o) W) Q) ⟨frm room A.room O n co d F, []⟩ W := by
  obtain ⟨e7, e11, e14, e15, e17, hC, hN, hl, hu, hr, hs, ht⟩ := h
  have x0 := hC.cell 0
  have x1 := hC.cell 1
  have x2 := hC.cell 2
  have x3 := hC.cell 3
  simp [opCells] at x0 x1 x2 x3
  rw [hk] at x0
  cases hn : Dx.name o.s
  · have hw : want1 A o = 1 := by simp [want1, hk, hn]
    rw [hw]
    unfold frm
    rw [e7, e14, e11, e15, e17]
    conv => arg 2; whnf
    clear hw hk
    go_wp2_with (first
      | (go_at_call_of 10 (Value.string o.s); refine (lnamed_any o.s _ hs).mono ?_; rw [hn]; rintro e w' ⟨rfl, rfl⟩))
    exact IA_mk ⟨rfl, rfl, rfl, rfl, rfl⟩ e7.symm rfl rfl rfl e11.symm rfl rfl e14.symm rfl (Fr.refl _ _)
  · cases ho : A.off
    · cases hth : (lk A.now o.s).isSome
      · have hw : want1 A o = 4 := by
          have : lk A.now o.s = none := by simpa using hth
          simp [want1, hk, hn, ho, this]
        rw [hw]
        rw [ho] at e11
        rw [hth] at e17
        unfold frm
        rw [e7, e14, e11, e15, e17]
        conv => arg 2; whnf
        clear hw hk
        go_wp2_with (first
            | (go_at_call_of 10 (Value.string o.s); refine (lnamed_any o.s _ hs).mono ?_; rw [hn]; rintro e w' ⟨rfl, rfl⟩))
        go_quiet (fail)
        go_wp2
        exact IA_mk ⟨rfl, rfl, rfl, rfl, rfl⟩ e7.symm rfl rfl rfl e11.symm rfl rfl e14.symm rfl (Fr.drewN _ _ _)
      · have hw : want1 A o = 0 := by
          have : lk A.now o.s ≠ none := by intro e; rw [e] at hth; cases hth
          simp [want1, hk, hn, ho, this]
        rw [hw]
        rw [ho] at e11
        rw [hth] at e17
        unfold frm
        rw [e7, e14, e11, e15, e17]
        conv => arg 2; whnf
        clear hw hk
        go_wp2_with (first
            | (go_at_call_of 10 (Value.string o.s); refine (lnamed_any o.s _ hs).mono ?_; rw [hn]; rintro e w' ⟨rfl, rfl⟩))
        go_quiet (fail)
        go_wp2
        exact IA_mk ⟨rfl, rfl, rfl, rfl, rfl⟩ e7.symm rfl rfl rfl e11.symm rfl rfl e14.symm rfl (Fr.drewN _ _ _)
    · have hw : want1 A o = 10 := by simp [want1, hk, hn, ho]
      rw [hw]
      rw [ho] at e11
      unfold frm
      rw [e7, e14, e11, e15, e17]
      conv => arg 2; whnf
      clear hw hk
      go_wp2_with (first
            | (go_at_call_of 10 (Value.string o.s); refine (lnamed_any o.s _ hs).mono ?_; rw [hn]; rintro e w' ⟨rfl, rfl⟩))
      exact IA_mk ⟨rfl, rfl, rfl, rfl, rfl⟩ e7.symm rfl rfl rfl e11.symm rfl rfl e14.symm rfl (Fr.refl _ _)

set_option maxRecDepth 100000 in
set_option maxHeartbeats 2000000 in
theorem sgA_4 (Q : Exit → Act → World → Prop) (room : Int) (O : Option Addr) (n co d : Nat) (F : Nat → Value) (W : World) (ob gn cn : Nat) (o : OpV) (A : Ab) (h : HypA F W ob gn cn o A) (hk : o.k = 4) :
    Code.wp Try.prog pA (Exit.then (IA room A.room O n co d F (want1 A o) W) Q) ⟨frm room A.room O n co d F, []⟩ W := by
  obtain ⟨e7, e11, e14, e15, e17, hC, hN, hl, hu, hr, hs, ht⟩ := h
  have x0 := hC.cell 0
  have x1 := hC.cell 1
  have x2 := hC.cell 2
  have x3 := hC.cell 3
  simp [opCells] at x0 x1 x2 x3
  rw [hk] at x0
  cases hn : Dx.name o.s
  · have hw : want1 A o = 1 := by simp [want1, hk, hn]
    rw [hw]
    unfold frm
    rw [e7, e14, e11, e15, e17]
    conv => arg 2; whnf
    clear hw hk
    go_wp2_with (first
      | (go_at_call_of 10 (Value.string o.s); refine (lnamed_any o.s _ hs).mono ?_; rw [hn]; rintro e w' ⟨rfl, rfl⟩))
    exact IA_mk ⟨rfl, rfl, rfl, rfl, rfl⟩ e7.symm rfl rfl rfl e11.symm rfl rfl e14.symm rfl (Fr.refl _ _)
  · cases ho : A.off
    · cases hth : (lk A.now o.s).isSome
      · have hw : want1 A o = 4 := by
          have : lk A.now o.s = none := by simpa using hth
          simp [want1, hk, hn, ho, this]
        rw [hw]
        rw [ho] at e11
        rw [hth] at e17
        unfold frm
        rw [e7, e14, e11, e15, e17]
        conv => arg 2; whnf
        clear hw hk
        go_wp2_with (first
            | (go_at_call_of 10 (Value.string o.s); refine (lnamed_any o.s _ hs).mono ?_; rw [hn]; rintro e w' ⟨rfl, rfl⟩))
        go_quiet (fail)
        go_wp2
        exact IA_mk ⟨rfl, rfl, rfl, rfl, rfl⟩ e7.symm rfl rfl rfl e11.symm rfl rfl e14.symm rfl (Fr.drewN _ _ _)
      · have hw : want1 A o = 0 := by
          have : lk A.now o.s ≠ none := by intro e; rw [e] at hth; cases hth
          simp [want1, hk, hn, ho, this]
        rw [hw]
        rw [ho] at e11
        rw [hth] at e17
        unfold frm
        rw [e7, e14, e11, e15, e17]
        conv => arg 2; whnf
        clear hw hk
        go_wp2_with (first
            | (go_at_call_of 10 (Value.string o.s); refine (lnamed_any o.s _ hs).mono ?_; rw [hn]; rintro e w' ⟨rfl, rfl⟩))
        go_quiet (fail)
        go_wp2
        exact IA_mk ⟨rfl, rfl, rfl, rfl, rfl⟩ e7.symm rfl rfl rfl e11.symm rfl rfl e14.symm rfl (Fr.drewN _ _ _)
    · have hw : want1 A o = 10 := by simp [want1, hk, hn, ho]
      rw [hw]
      rw [ho] at e11
      unfold frm
      rw [e7, e14, e11, e15, e17]
      conv => arg 2; whnf
      clear hw hk
      go_wp2_with (first
            | (go_at_call_of 10 (Value.string o.s); refine (lnamed_any o.s _ hs).mono ?_; rw [hn]; rintro e w' ⟨rfl, rfl⟩))
      exact IA_mk ⟨rfl, rfl, rfl, rfl, rfl⟩ e7.symm rfl rfl rfl e11.symm rfl rfl e14.symm rfl (Fr.refl _ _)

set_option maxRecDepth 100000 in
set_option maxHeartbeats 2000000 in
theorem sgA_0 (Q : Exit → Act → World → Prop) (room : Int) (O : Option Addr) (n co d : Nat) (F : Nat → Value) (W : World) (ob gn cn : Nat) (o : OpV) (A : Ab) (h : HypA F W ob gn cn o A) (hk : o.k = 0) :
    Code.wp Try.prog pA (Exit.then (IA room A.room O n co d F (want1 A o) W) Q) ⟨frm room A.room O n co d F, []⟩ W := by
  obtain ⟨e7, e11, e14, e15, e17, hC, hN, hl, hu, hr, hs, ht⟩ := h
  have x0 := hC.cell 0
  have x1 := hC.cell 1
  have x3 := hC.cell 3
  simp [opCells] at x0 x1 x3
  rw [hk] at x0
  cases hn : Dx.name o.s
  · have hw : want1 A o = 1 := by simp [want1, hk, hn]
    rw [hw]
    unfold frm
    rw [e7, e14, e11, e15, e17]
    conv => arg 2; whnf
    clear hw hk
    go_wp2_with (first
      | (go_at_call_of 10 (Value.string o.s); refine (lnamed_any o.s _ hs).mono ?_; rw [hn]; rintro e w' ⟨rfl, rfl⟩))
    exact IA_mk ⟨rfl, rfl, rfl, rfl, rfl⟩ e7.symm rfl rfl rfl e11.symm rfl rfl e14.symm rfl (Fr.refl _ _)
  · cases ho : A.off
    · have kU := Lib.hid (fun n => used_any (W.drewN n) gn cn A.now (hN.fr (Fr.drewN W n (fun _ => False)) (fun h => h)) hl (by omega))
      have hwr : IntKind.i64.wrap (A.room - (used A.now : Int)) = A.room - (used A.now : Int) := by rw [IntKind.wrap_i64]; omega
      by_cases hf : A.room - (used A.now : Int) < (o.b.length : Int)
      · have hw : want1 A o = 11 := by simp [want1, hk, hn, ho, hf]
        have hfd : decide (A.room - (used A.now : Int) < (o.b.length : Int)) = true := by simpa using hf
        rw [hw]
        rw [ho] at e11
        unfold frm
        rw [e7, e14, e11, e15, e17]
        conv => arg 2; whnf
        clear hw hk hf
        go_wp2_with (first
          | (go_at_call_of 10 (Value.string o.s); refine (lnamed_any o.s _ hs).mono ?_; rw [hn]; rintro e w' ⟨rfl, rfl⟩))
        go_region_held3 (fun w' => w'.cell? ⟨ob, 0, none⟩ = some (.int .i64 0) ∧ w'.cell? ⟨ob, 3, none⟩ = some (.slice o.A o.b.length o.c))
          (first | exact ⟨x0, x3⟩ | exact ⟨y0, y3⟩)
          (first | (go_at_call 11; refine (kU.out 1).mono ?_; intro e w2 hP; obtain ⟨rfl, hf2⟩ := hP; have b2 := hf2.block ob (block_lt x0) (fun h => h); have y0 : w2.cell? ⟨ob, 0, none⟩ = some (.int .i64 0) := (World.cell?_of_block b2).trans x0; have y3 : w2.cell? ⟨ob, 3, none⟩ = some (.slice o.A o.b.length o.c) := (World.cell?_of_block b2).trans x3))
        all_goals
          go_wp2
          exact IA_mk ⟨rfl, rfl, rfl, rfl, rfl⟩ e7.symm rfl rfl rfl e11.symm rfl rfl e14.symm rfl ((Fr.drewN W 1 _).trans hf2)
      · have hw : want1 A o = 0 := by simp [want1, hk, hn, ho, hf]
        have hfd : decide (A.room - (used A.now : Int) < (o.b.length : Int)) = false := by simpa using hf
        rw [hw]
        rw [ho] at e11
        unfold frm
        rw [e7, e14, e11, e15, e17]
        conv => arg 2; whnf
        clear hw hk hf
        go_wp2_with (first
          | (go_at_call_of 10 (Value.string o.s); refine (lnamed_any o.s _ hs).mono ?_; rw [hn]; rintro e w' ⟨rfl, rfl⟩))
        go_region_held3 (fun w' => w'.cell? ⟨ob, 0, none⟩ = some (.int .i64 0) ∧ w'.cell? ⟨ob, 3, none⟩ = some (.slice o.A o.b.length o.c))
          (first | exact ⟨x0, x3⟩ | exact ⟨y0, y3⟩)
          (first | (go_at_call 11; refine (kU.out 1).mono ?_; intro e w2 hP; obtain ⟨rfl, hf2⟩ := hP; have b2 := hf2.block ob (block_lt x0) (fun h => h); have y0 : w2.cell? ⟨ob, 0, none⟩ = some (.int .i64 0) := (World.cell?_of_block b2).trans x0; have y3 : w2.cell? ⟨ob, 3, none⟩ = some (.slice o.A o.b.length o.c) := (World.cell?_of_block b2).trans x3))
        all_goals
          go_wp2
          exact IA_mk ⟨rfl, rfl, rfl, rfl, rfl⟩ e7.symm rfl rfl rfl e11.symm rfl rfl e14.symm rfl ((Fr.drewN W 1 _).trans hf2)
    · have hw : want1 A o = 10 := by simp [want1, hk, hn, ho]
      rw [hw]
      rw [ho] at e11
      unfold frm
      rw [e7, e14, e11, e15, e17]
      conv => arg 2; whnf
      clear hw hk
      go_wp2_with (first
        | (go_at_call_of 10 (Value.string o.s); refine (lnamed_any o.s _ hs).mono ?_; rw [hn]; rintro e w' ⟨rfl, rfl⟩))
      exact IA_mk ⟨rfl, rfl, rfl, rfl, rfl⟩ e7.symm rfl rfl rfl e11.symm rfl rfl e14.symm rfl (Fr.refl _ _)

theorem sgA (Q : Exit → Act → World → Prop) (room : Int) (O : Option Addr) (n co d : Nat) (F : Nat → Value) (W : World) (ob gn cn : Nat) (o : OpV) (A : Ab) (h : HypA F W ob gn cn o A) :
    Code.wp Try.prog pA (Exit.then (IA room A.room O n co d F (want1 A o) W) Q) ⟨frm room A.room O n co d F, []⟩ W := by
  by_cases h0 : o.k = 0
  · exact sgA_0 Q room O n co d F W ob gn cn o A h h0
  · by_cases h1 : o.k = 1
    · exact sgA_1 Q room O n co d F W ob gn cn o A h h1
    · by_cases h2 : o.k = 2
      · exact sgA_2 Q room O n co d F W ob gn cn o A h h2
      · by_cases h3 : o.k = 3
        · exact sgA_3 Q room O n co d F W ob gn cn o A h h3
        · by_cases h4 : o.k = 4
          · exact sgA_4 Q room O n co d F W ob gn cn o A h h4
          · exact sgA_none Q room O n co d F W ob gn cn o A h (by omega)

end Go.Proofs.Ytbdmlenapccdnaa
