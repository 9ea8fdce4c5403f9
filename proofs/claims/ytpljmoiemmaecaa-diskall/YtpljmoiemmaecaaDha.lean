/- The law DiskAll: its plain side, and its loop. -/
import Derived.Test.YtpljmoiemmaecaaDhf
import Derived.Test.YtpljmoiemmaecaaAm
namespace Go.Proofs.Ytpljmoiemmaecaa
open Go.RowKit Go.Maps

theorem Mny.congr {w0 w : World} {Q : Nat → Prop} {n : Nat} {D D' : Nat → Nat} {m : Nat} {As As' : Nat → Ab} (h : Mny w0 w Q n D m As) (hD : ∀ i, i < n → D i = D' i) (hA : ∀ i, i < n → As i = As' i) : Mny w0 w Q n D' m As' := by
  obtain ⟨σ, h1, h2, h3, h4, h5⟩ := h
  refine ⟨σ, fun i hi => ?_, h2, fun i hi => ?_, fun i j hi hj => ?_, fun k hk => ⟨(h5 k hk).1, fun i hi => ?_⟩⟩
  · rw [← hD i hi, ← hA i hi]; exact h1 i hi
  · rw [← hD i hi]; exact h3 i hi
  · rw [← hD i hi, ← hD j hj]; exact h4 i j hi hj
  · rw [← hD i hi]; exact (h5 k hk).2 i hi

/-- one step of the law, plain -/
def stA (A : Ab) (o : OpV) : Ab :=
  if o.k = 0 then (wrA A o.s o.b).1 else if o.k = 1 then (mvA A o.s o.t).1 else if o.k = 2 then (drA A o.s).1 else if o.k = 3 then (syA A).1 else A
/-- a disk without a fuse -/
structure Qt (A : Ab) : Prop where
  off : A.off = false
  fuse : A.fuse = 0
theorem Qt.stp {A : Ab} (h : Qt A) : Qt (stpA A) := by
  have hf : ¬ A.fuse = 1 := by rw [h.fuse]; decide
  unfold stpA
  rw [if_neg hf]
  exact ⟨h.off, by show max (A.fuse - 1) 0 = 0; rw [h.fuse]; decide⟩
theorem Qt.chg {A : Ab} (h : Qt A) (c : AC) : Qt (chgA A c) := ⟨h.stp.off, h.stp.fuse⟩
theorem Qt.st {A : Ab} (h : Qt A) (o : OpV) : Qt (stA A o) := by
  unfold stA wrA mvA drA syA
  have hf : ¬ A.fuse = 1 := by rw [h.fuse]; decide
  have ho : ¬ A.off = true := by rw [h.off]; decide
  repeat' split
  all_goals first
    | exact h
    | exact h.stp
    | exact h.chg _
    | (exfalso; contradiction)
    | exact ⟨h.stp.off, h.stp.fuse⟩
theorem cr_sync {A : Ab} (h : Qt A) (torn : Int) : crA (syA A).1 0 torn = (syA A).1 := by
  have hf : ¬ A.fuse = 1 := by rw [h.fuse]; decide
  have ho : ¬ A.off = true := by rw [h.off]; decide
  have hs := h.stp
  obtain ⟨s1, s2, s3, s4⟩ := stpA_rest A
  unfold syA
  rw [if_neg ho, if_neg hf]
  simp only
  unfold crA left kept
  simp [acts, hs.off, hs.fuse, s1]

def D3 (a b c : Nat) : Nat → Nat
  | 0 => a
  | 1 => b
  | _ => c
/-- the first k disks are on -/
def As2 (k : Nat) (A' A : Ab) (j : Nat) : Ab := if j < k then A' else A
theorem As2_next {k : Nat} {A' A : Ab} : (fun j => if j = k then A' else As2 k A' A j) = As2 (k + 1) A' A := by
  funext j
  unfold As2
  by_cases e : j = k
  · subst e; simp
  · rw [if_neg e]
    by_cases h : j < k
    · rw [if_pos h, if_pos (by omega)]
    · rw [if_neg h, if_neg (by omega)]
theorem As2_at (k : Nat) (A' A : Ab) : As2 k A' A k = A := by unfold As2; simp
def opCells (o : OpV) : Array Value := #[.int .i64 o.k, .string o.s, .string o.t, .slice o.A o.b.length o.c, .int .i64 o.n, .int .i64 o.torn]
def pCells (a b c : Nat) : Array Value := #[.pointer (some ⟨a, 0, none⟩), .pointer (some ⟨b, 0, none⟩), .pointer (some ⟨c, 0, none⟩)]
theorem pCell {W : World} {g a b c k : Nat} (h : Cel W g 24 (pCells a b c)) (hk : k < 3) : W.cell? ⟨g, k, none⟩ = some (.pointer (some ⟨D3 a b c k, 0, none⟩)) := by
  rw [h.cell k]
  match k, hk with
  | 0, _ => rfl
  | 1, _ => rfl
  | 2, _ => rfl

/-- what stands at the inner loop -/
structure AllIn (w1 : World) (a b c ob g m : Nat) (o : OpV) (A : Ab) (k : Nat) (W : World) : Prop where
  many : Mny w1 W (fun x => x = ob ∨ x = g) 3 (D3 a b c) (m + k) (As2 k (stA A o) A)
  op : Cel W ob 30 (opCells o)
  row : Cel W g 24 (pCells a b c)

theorem AllIn.step {w1 W W' : World} {a b c ob g m k : Nat} {o : OpV} {A : Ab} (h : AllIn w1 a b c ob g m o A k W) (hM : Mny w1 W' (fun x => x = ob ∨ x = g) 3 (D3 a b c) (m + k + 1) (fun j => if j = k then stA A o else As2 k (stA A o) A j)) (hQ : ∀ x, (x = ob ∨ x = g) → W'.heap[x]? = W.heap[x]?) : AllIn w1 a b c ob g m o A (k + 1) W' := by
  rw [As2_next] at hM
  exact ⟨hM, h.op.of (hQ ob (.inl rfl)), h.row.of (hQ g (.inr rfl))⟩

theorem stA_0 {A : Ab} {o : OpV} (h0 : (o.k == 0) = true) : stA A o = (wrA A o.s o.b).1 := by
  have : o.k = 0 := by simpa using h0
  simp [stA, this]
theorem stA_1 {A : Ab} {o : OpV} (h1 : (o.k == 1) = true) : stA A o = (mvA A o.s o.t).1 := by
  have : o.k = 1 := by simpa using h1
  simp [stA, this]
theorem stA_2 {A : Ab} {o : OpV} (h1 : (o.k == 2) = true) : stA A o = (drA A o.s).1 := by
  have : o.k = 2 := by simpa using h1
  simp [stA, this]
theorem stA_3 {A : Ab} {o : OpV} (h1 : (o.k == 3) = true) : stA A o = (syA A).1 := by
  have : o.k = 3 := by simpa using h1
  simp [stA, this]
theorem stA_4 {A : Ab} {o : OpV} (h0 : (o.k == 0) = false) (h1 : (o.k == 1) = false) (h2 : (o.k == 2) = false) (h3 : (o.k == 3) = false) : stA A o = A := by
  simp at h0 h1 h2 h3
  simp [stA, h0, h1, h2, h3]
theorem cr_fix {k : Nat} {A A' : Ab} (hq : Qt A) (torn : Int) (j : Nat) (_ : j < 3) : (if j = k then crA (if k = k then (syA A).1 else As2 k A' A k) 0 torn else if j = k then (syA A).1 else As2 k A' A j) = (if j = k then (syA A).1 else As2 k A' A j) := by
  by_cases e : j = k
  · rw [if_pos e, if_pos rfl, if_pos e, cr_sync hq]
  · rw [if_neg e, if_neg e]
theorem RdO.ok {w : World} {A : Option Addr} {os : List OpV} (h : RdO w A os) {i : Nat} {o : OpV} (ho : os[i]? = some o) : OpOk w o := by
  rcases h with rfl | ⟨b, off, _, _, h⟩
  · simp at ho
  · exact (h i o ho).2
theorem AllIn.skip {w1 W : World} {a b c ob g m k : Nat} {o : OpV} {A : Ab} (h : AllIn w1 a b c ob g m o A k W) (e : stA A o = A) : AllIn w1 a b c ob g m o A (k + 1) W := by
  refine ⟨(h.many.le (Nat.le_succ _)).congr (fun _ _ => rfl) (fun j _ => ?_), h.op, h.row⟩
  unfold As2
  rw [e]
  simp

/-- a row of names -/
def RdNm (w : World) (X : Option Addr) (L : Fl) : Prop := L = [] ∨ ∃ g, X = some ⟨g, 0, none⟩ ∧ g < w.heap.size ∧ ∀ i p, L[i]? = some p → w.cell? ⟨g, i, none⟩ = some (.string p.1)
theorem RdNm.fr {w w' : World} {X : Option Addr} {L : Fl} (h : RdNm w X L) (hf : Fr (fun _ => False) w w') : RdNm w' X L := by
  rcases h with h | ⟨g, e, hg, h⟩
  · exact .inl h
  · exact .inr ⟨g, e, Nat.lt_of_lt_of_le hg hf.size, fun i p hi => (World.cell?_of_block (hf.block g hg (fun h => h))).trans (h i p hi)⟩
theorem own_names {w : World} {base : Nat} {v : Value} {L : Fl} (h : w.ownsRow base 9 1 v L.length (L.map fun p => Value.string p.1)) : ∃ X c, v = .slice X L.length c ∧ RdNm w X L ∧ (∀ g, v.ownBlock = some g → base ≤ g) := by
  have hh := h
  rcases h.2 with ⟨rfl, hn⟩ | ⟨g, cap, cur, rfl, hge, hg, hnc, _⟩
  · have hx : L = [] := List.eq_nil_of_length_eq_zero hn
    subst hx
    exact ⟨none, 0, rfl, .inl rfl, fun g e => by cases e⟩
  · refine ⟨some ⟨g, 0, none⟩, cap, rfl, .inr ⟨g, rfl, (Array.getElem?_eq_some_iff.1 hg).1, fun i p hi => ?_⟩, fun g' e => by cases e; exact hge⟩
    have hil := (List.getElem?_eq_some_iff.1 hi).1
    rw [hh.cellAt i (by omega), List.getElem?_map, hi]
    rfl
/-- all changes stay: nothing has turned; none stays: what is safe -/
theorem Gd.all {w : World} {d m : Nat} {A : Ab} {σ : Dv} (h : Gd w d m A σ) (hm : m ≤ 2000) (torn : Int) : (crA A 1073741824 torn).now = A.now := by
  have h1 := h.ns
  have h2 := h.cl
  have hk : kept A 1073741824 = A.pend.length := by unfold kept; omega
  show acts A.safe (left A 1073741824 torn) = A.now
  have hl : left A 1073741824 torn = A.pend := by
    unfold left
    rw [hk, List.take_length, List.getElem?_eq_none (Nat.le_refl _)]
    simp
  rw [hl, h.run]
theorem cr_zero (A : Ab) : (crA A 0 0).now = A.safe := by
  show acts A.safe (left A 0 0) = A.safe
  have hk : kept A 0 = 0 := by unfold kept; omega
  unfold left
  rw [hk]
  simp [acts]
/-- what is read hangs on the files alone -/
theorem rd_same {A B : Ab} (h : A.now = B.now) (h1 : A.off = B.off) (s : ByteArray) : rdA A s = rdA B s := by unfold rdA; rw [h, h1]
def As3 (A B C : Ab) : Nat → Ab
  | 0 => A
  | 1 => B
  | _ => C

theorem Names_manyL {w0 w : World} {Q : Nat → Prop} {n : Nat} {D : Nat → Nat} {m : Nat} {As : Nat → Ab} (h : Mny w0 w Q n D m As) {i : Nat} (hi : i < n) (ho : (As i).off = false) (hm : m ≤ 2000) (L : Fl) (hL : (As i).now = L) :
    Calls Try.prog 27 #[.pointer (some ⟨D i, 0, none⟩)] w fun e w' => ∃ X c, e = .returned (.slice X L.length c) ∧ RdNm w' X L ∧ Fr (fun _ => False) w w' := by
  refine (Names_many h hi ho hm).mono ?_
  rintro e w' ⟨v, rfl, hr, hf⟩
  rw [hL] at hr
  obtain ⟨X, c, rfl, hX, _⟩ := own_names hr
  exact ⟨X, c, rfl, hX, hf⟩
theorem Read_manyL {w0 w : World} {Q : Nat → Prop} {n : Nat} {D : Nat → Nat} {m : Nat} {As : Nat → Ab} (h : Mny w0 w Q n D m As) {i : Nat} (hi : i < n) (s : ByteArray) (hsm : s.size ≤ maxLen) (r : List Int × Int) (hr : rdA (As i) s = r) :
    Calls Try.prog 19 #[.pointer (some ⟨D i, 0, none⟩), .string s] w fun e w' => ∃ B c, e = .returned (.tuple #[.slice B r.1.length c, .int .i64 r.2]) ∧ RdB w' (.slice B r.1.length c) r.1 ∧ Fr (fun _ => False) w w' := by
  refine (Read_many h hi s hsm).mono ?_
  rw [hr]
  rintro e w' ⟨B, c, rfl, h1, _, h2⟩
  exact ⟨B, c, rfl, h1, h2⟩
theorem Used_many {w0 w : World} {Q : Nat → Prop} {n : Nat} {D : Nat → Nat} {m : Nat} {As : Nat → Ab} (h : Mny w0 w Q n D m As) {i : Nat} (hi : i < n) (L : Fl) (hL : (As i).now = L) :
    Calls Try.prog 25 #[.pointer (some ⟨D i, 0, none⟩)] w fun e w' => e = .returned (.int .i64 (used L)) ∧ w = w' := by
  obtain ⟨σ, h1⟩ := h.get hi
  rw [← hL]
  exact Used_gd h1

theorem Gd.keys {w : World} {d m : Nat} {A : Ab} {σ : Dv} (h : Gd w d m A σ) {D0 : DataW Unit} {b : Nat} (hown : w.ownsMap Try.prog 9 sv b σ.nn D0) (hD : ∀ s : ByteArray, has D0 (ky s) = (vnow σ.S s).isSome ∧ D0.atKey (ky s) (sd nilS) = sd ((vnow σ.S s).getD nilS) ∧ isS ((vnow σ.S s).getD nilS) = true) : (nms A.now).Perm (strKeys D0) := by
  refine Collected.perm (left := fun _ => false) ⟨nms_nodup h.sn, fun x => ?_⟩ hown K Try.underlying9 (fun _ => rfl)
  have h1 := (hD ⟨x.toArray⟩).1
  rw [lk_isSome h.sn]
  have h2 : ky ⟨x.toArray⟩ = .string x := by unfold ky; simp
  rw [h2] at h1
  rw [h1]
  unfold vnow
  rw [← h.now]
  simp
theorem Gd.nameLe {w : World} {d m : Nat} {A : Ab} {σ : Dv} (h : Gd w d m A σ) {p : ByteArray × List Int} (hp : p ∈ A.now) : p.1.size ≤ maxLen := by
  have hl := mem_lk h.sn (x := p.1) (c := p.2) hp
  obtain ⟨v, hv⟩ := h.someN hl
  rcases h.inv.fn with ⟨_, hV⟩ | ⟨b, _, D0, hown, hD⟩
  · have := congrFun hV p.1
    unfold vnow at this
    rw [hv] at this
    cases this
  · have := strKeys_le hown Try.underlying9 _ ((h.keys hown hD).mem_iff.1 (List.mem_map.2 ⟨p, hp, rfl⟩))
    simpa using this
theorem Gd.lenN {w : World} {d m : Nat} {A : Ab} {σ : Dv} (h : Gd w d m A σ) : A.now.length ≤ m := by
  cases hn : A.now with
  | nil => simp
  | cons p L =>
    have hp : p ∈ A.now := by rw [hn]; exact List.mem_cons_self
    have hl := mem_lk h.sn (x := p.1) (c := p.2) hp
    obtain ⟨v, hv⟩ := h.someN hl
    rcases h.inv.fn with ⟨_, hV⟩ | ⟨b, _, D0, hown, hD⟩
    · have := congrFun hV p.1
      unfold vnow at this
      rw [hv] at this
      cases this
    · have h1 := (h.keys hown hD).length_eq
      have h2 := hown.size_le
      have h3 := h.nn
      have h4 : (strKeys D0).length = Maps.size D0 := by
        obtain ⟨es, rfl, _⟩ := hown.keysOf
        simp [strKeys, Maps.size]
      have h5 : (nms A.now).length = A.now.length := by unfold nms; simp
      rw [← hn]
      omega
theorem Mny.lenN {w0 w : World} {Q : Nat → Prop} {n : Nat} {D : Nat → Nat} {m : Nat} {As : Nat → Ab} (h : Mny w0 w Q n D m As) {i : Nat} (hi : i < n) {L : Fl} (hL : (As i).now = L) : L.length ≤ m := by
  obtain ⟨σ, h1⟩ := h.get hi
  rw [← hL]
  exact h1.lenN
theorem Mny.nameLe {w0 w : World} {Q : Nat → Prop} {n : Nat} {D : Nat → Nat} {m : Nat} {As : Nat → Ab} (h : Mny w0 w Q n D m As) {i : Nat} (hi : i < n) {L : Fl} (hL : (As i).now = L) {j : Nat} {p : ByteArray × List Int} (hp : L[j]? = some p) : p.1.size ≤ maxLen := by
  obtain ⟨σ, h1⟩ := h.get hi
  exact h1.nameLe (by rw [hL]; exact List.mem_of_getElem? hp)
theorem RdNm.at {w : World} {X : Option Addr} {L : Fl} (h : RdNm w X L) {j : Nat} {p : ByteArray × List Int} (hp : L[j]? = some p) : ∃ g, X = some ⟨g, 0, none⟩ ∧ w.cell? ⟨g, j, none⟩ = some (.string p.1) := by
  rcases h with rfl | ⟨g, e, _, h⟩
  · simp at hp
  · exact ⟨g, e, h j p hp⟩

theorem meas {j n : Nat} (h : j < n) : n - (intOf (.int .i64 ((j : Int) + 1))).toNat < n - (intOf (.int .i64 (j : Int))).toNat := by
  simp [intOf]
  omega

end Go.Proofs.Ytpljmoiemmaecaa
