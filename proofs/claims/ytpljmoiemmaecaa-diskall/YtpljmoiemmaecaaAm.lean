/- Several disks beside each other, and blocks that are none of theirs. -/
import Derived.Test.YtpljmoiemmaecaaSk
namespace Go.Proofs.Ytpljmoiemmaecaa
open Go.RowKit

theorem DInv.far {S : Nat → Prop} {w w' : World} {d B : Nat} {σ : Dv} (h : DInv w d B σ) (hf : Fr S w w') (hS : ∀ k, foot d σ k → ¬ S k) : DInv w' d B σ :=
  ⟨h.cel.of (hf.block d h.cel.lt (hS d (.inl rfl))), h.fn.fr hf (fun b e => hS b (.inr (.inl e))), h.fs.fr hf (fun b e => hS b (.inr (.inr (.inl e)))),
   h.fam.keep (fun p v l e => (h.fam.rd p v l e).fr hf (fun g eg => hS g (.inr (.inr (.inr (.inr ⟨p, v, l, e, eg⟩)))))), h.mm, own_fr h.row hf (fun g e => hS g (.inr (.inr (.inr (.inl e))))), h.pend, h.pend0⟩
theorem Gd.far {S : Nat → Prop} {w w' : World} {d m : Nat} {A : Ab} {σ : Dv} (h : Gd w d m A σ) (hf : Fr S w w') (hS : ∀ k, foot d σ k → ¬ S k) : Gd w' d m A σ :=
  ⟨h.inv.far hf hS, h.now, h.safe, h.cl, h.chs, h.un, h.us, h.room, h.fuse, h.steps, h.off, h.ss, h.ok, h.run, h.usf, h.rm, h.nn, h.ns, h.fz, h.st⟩
theorem Gd.le {w : World} {d m m' : Nat} {A : Ab} {σ : Dv} (h : Gd w d m A σ) (hm : m ≤ m') : Gd w d m' A σ :=
  ⟨h.inv, h.now, h.safe, h.cl, h.chs, h.un, h.us, h.room, h.fuse, h.steps, h.off, h.ss, h.ok, h.run, h.usf, h.rm, Nat.le_trans h.nn hm, Nat.le_trans h.ns hm, h.fz, ⟨h.st.1, by have := h.st.2; omega⟩⟩

/-- n disks made behind w0, apart from each other; none of them has a block of Q; nothing of w0 has turned -/
def Mny (w0 w : World) (Q : Nat → Prop) (n : Nat) (D : Nat → Nat) (m : Nat) (As : Nat → Ab) : Prop :=
  ∃ σ : Nat → Dv, (∀ i, i < n → Gd w (D i) m (As i) (σ i)) ∧ Fr (fun _ => False) w0 w ∧ (∀ i, i < n → ∀ k, foot (D i) (σ i) k → w0.heap.size ≤ k) ∧
    (∀ i j, i < n → j < n → i ≠ j → ∀ k, foot (D i) (σ i) k → ¬ foot (D j) (σ j) k) ∧ ∀ k, Q k → k < w.heap.size ∧ ∀ i, i < n → ¬ foot (D i) (σ i) k
section
variable {w0 w w' : World} {Q : Nat → Prop} {n : Nat} {D : Nat → Nat} {m : Nat} {As : Nat → Ab}
theorem Mny.fr (h : Mny w0 w Q n D m As) : Fr (fun _ => False) w0 w := h.choose_spec.2.1
theorem Mny.get (h : Mny w0 w Q n D m As) {i : Nat} (hi : i < n) : ∃ σ, Gd w (D i) m (As i) σ := ⟨_, h.choose_spec.1 i hi⟩
theorem Mny.lt (h : Mny w0 w Q n D m As) {k : Nat} (hk : Q k) : k < w.heap.size := (h.choose_spec.2.2.2.2 k hk).1
theorem Mny.keep (h : Mny w0 w Q n D m As) (hf : Fr (fun _ => False) w w') : Mny w0 w' Q n D m As := by
  obtain ⟨σ, h1, h2, h3, h4, h5⟩ := h
  exact ⟨σ, fun i hi => (h1 i hi).keep hf, h2.trans hf, h3, h4, fun k hk => ⟨Nat.lt_of_lt_of_le (h5 k hk).1 hf.size, (h5 k hk).2⟩⟩
theorem Mny.le (h : Mny w0 w Q n D m As) {m' : Nat} (hm : m ≤ m') : Mny w0 w Q n D m' As := by
  obtain ⟨σ, h1, h2, h3, h4, h5⟩ := h
  exact ⟨σ, fun i hi => (h1 i hi).le hm, h2, h3, h4, h5⟩
theorem Mny.sub (h : Mny w0 w Q n D m As) {Q' : Nat → Prop} (hQ : ∀ k, Q' k → Q k) : Mny w0 w Q' n D m As := by
  obtain ⟨σ, h1, h2, h3, h4, h5⟩ := h
  exact ⟨σ, h1, h2, h3, h4, fun k hk => h5 k (hQ k hk)⟩
/-- new blocks are none of theirs -/
theorem Mny.new (h : Mny w0 w Q n D m As) (hf : Fr (fun _ => False) w w') : Mny w0 w' (fun k => Q k ∨ (w.heap.size ≤ k ∧ k < w'.heap.size)) n D m As := by
  obtain ⟨σ, h1, h2, h3, h4, h5⟩ := h
  refine ⟨σ, fun i hi => (h1 i hi).keep hf, h2.trans hf, h3, h4, fun k hk => ?_⟩
  rcases hk with hk | ⟨hk, hk'⟩
  · exact ⟨Nat.lt_of_lt_of_le (h5 k hk).1 hf.size, (h5 k hk).2⟩
  · exact ⟨hk', fun i hi hf => by have := (h1 i hi).inv.foot_lt hf; omega⟩
/-- a block that is theirs by no disk may turn -/
theorem Mny.turn (h : Mny w0 w Q n D m As) {S : Nat → Prop} (hf : Fr S w w') (hS : ∀ k, S k → Q k) (hS0 : ∀ k, S k → w0.heap.size ≤ k) : Mny w0 w' Q n D m As := by
  obtain ⟨σ, h1, h2, h3, h4, h5⟩ := h
  exact ⟨σ, fun i hi => (h1 i hi).far hf (fun k hk hs => (h5 k (hS k hs)).2 i hi hk), h2.then hf (fun k hk => .inr (hS0 k hk)), h3, h4, fun k hk => ⟨Nat.lt_of_lt_of_le (h5 k hk).1 hf.size, (h5 k hk).2⟩⟩

theorem Mny.op (h : Mny w0 w Q n D m As) {i : Nat} (hi : i < n) {f : FuncId} {args : Array Value} {P : Ending → World → Prop} {A' : Ab} {m' : Nat} (hm : m ≤ m')
    (hc : ∀ σ, Gd w (D i) m (As i) σ → Calls Try.prog f args w fun e w' => P e w' ∧ ∃ σ', Gd w' (D i) m' A' σ' ∧ Thn w (D i) σ w' σ') :
    Calls Try.prog f args w fun e w' => P e w' ∧ Mny w0 w' Q n D m' (fun j => if j = i then A' else As j) ∧ ∀ k, Q k → w'.heap[k]? = w.heap[k]? := by
  obtain ⟨σ, h1, h2, h3, h4, h5⟩ := h
  refine (hc (σ i) (h1 i hi)).mono ?_
  rintro e w' ⟨hP, σ', hG, hT⟩
  have hsz := hT.fr.size
  refine ⟨hP, ⟨fun j => if j = i then σ' else σ j, fun j hj => ?_, h2.then hT.fr (fun k hk => .inr (h3 i hi k hk)), fun j hj k hk => ?_, fun j l hj hl hjl k hk hk' => ?_, fun k hk => ⟨Nat.lt_of_lt_of_le (h5 k hk).1 hsz, fun j hj hf => ?_⟩⟩, fun k hk => ?_⟩
  · by_cases e : j = i
    · subst e
      simp only [if_true]
      exact hG
    · simp only [if_neg e]
      exact ((h1 j hj).far hT.fr (fun k hk hk' => h4 j i hj hi e k hk hk')).le hm
  · by_cases e : j = i
    · subst e
      simp only [if_true] at hk
      rcases hT.ft k hk with hk | hk
      · exact h3 j hj k hk
      · exact Nat.le_trans h2.size hk
    · simp only [if_neg e] at hk
      exact h3 j hj k hk
  · by_cases e : j = i
    · subst e
      have el : ¬ l = j := fun e => hjl e.symm
      simp only [if_true] at hk
      simp only [if_neg el] at hk'
      rcases hT.ft k hk with hk | hk
      · exact h4 j l hj hl hjl k hk hk'
      · have := (h1 l hl).inv.foot_lt hk'
        omega
    · simp only [if_neg e] at hk
      by_cases el : l = i
      · subst el
        simp only [if_true] at hk'
        rcases hT.ft k hk' with hk' | hk'
        · exact h4 j l hj hl hjl k hk hk'
        · have := (h1 j hj).inv.foot_lt hk
          omega
      · simp only [if_neg el] at hk'
        exact h4 j l hj hl hjl k hk hk'
  · by_cases e : j = i
    · subst e
      simp only [if_true] at hf
      rcases hT.ft k hf with hf | hf
      · exact (h5 k hk).2 j hj hf
      · have := (h5 k hk).1
        omega
    · simp only [if_neg e] at hf
      exact (h5 k hk).2 j hj hf
  · exact hT.fr.block k (h5 k hk).1 (fun hf => (h5 k hk).2 i hi hf)

/-- one more disk -/
theorem New_many (h : Mny w0 w Q n D m As) (room : Int) : Calls Try.prog 10 #[.int .i64 room] w fun e w' => e = .returned (.pointer (some ⟨w.heap.size, 0, none⟩)) ∧ Mny w0 w' Q (n + 1) (fun i => if i = n then w.heap.size else D i) m (fun i => if i = n then newA room else As i) ∧ Fr (fun _ => False) w w' := by
  obtain ⟨σ, h1, h2, h3, h4, h5⟩ := h
  refine (New_gd w room).mono ?_
  rintro e w' ⟨rfl, σ', hG, hf, hft⟩
  refine ⟨rfl, ⟨fun i => if i = n then σ' else σ i, fun i hi => ?_, h2.trans hf, fun i hi k hk => ?_, fun i j hi hj hij k hk hk' => ?_, fun k hk => ⟨Nat.lt_of_lt_of_le (h5 k hk).1 hf.size, fun i hi hk' => ?_⟩⟩, hf⟩
  · by_cases e : i = n
    · simp only [if_pos e]
      exact hG.le (Nat.zero_le _)
    · simp only [if_neg e]
      exact (h1 i (by omega)).keep hf
  · by_cases e : i = n
    · simp only [if_pos e] at hk
      exact Nat.le_trans h2.size (hft k hk)
    · simp only [if_neg e] at hk
      exact h3 i (by omega) k hk
  · by_cases e : i = n
    · simp only [if_pos e] at hk
      by_cases e' : j = n
      · omega
      · simp only [if_neg e'] at hk'
        have h6 := hft k hk
        have h7 := (h1 j (by omega)).inv.foot_lt hk'
        omega
    · simp only [if_neg e] at hk
      by_cases e' : j = n
      · simp only [if_pos e'] at hk'
        have h6 := hft k hk'
        have h7 := (h1 i (by omega)).inv.foot_lt hk
        omega
      · simp only [if_neg e'] at hk'
        exact h4 i j (by omega) (by omega) hij k hk hk'
  · by_cases e : i = n
    · simp only [if_pos e] at hk'
      have h6 := hft k hk'
      have h7 := (h5 k hk).1
      omega
    · simp only [if_neg e] at hk'
      exact (h5 k hk).2 i (by omega) hk'
theorem Mny.none (w : World) (m : Nat) (D : Nat → Nat) (As : Nat → Ab) : Mny w w (fun _ => False) 0 D m As :=
  ⟨fun _ => fresh 0, fun i hi => by omega, Fr.refl _ _, fun i hi => by omega, fun i j hi => by omega, fun k hk => hk.elim⟩

theorem Write_many (h : Mny w0 w Q n D m As) {i : Nat} (hi : i < n) (s : ByteArray) (A0 : Option Addr) (cap0 : Nat) (data : List Int) (hsm : s.size ≤ maxLen) (hd : Rd w .u8 A0 data) (hA0 : A0 = none → cap0 = 0) (hm : m < 2000) :
    Calls Try.prog 15 #[.pointer (some ⟨D i, 0, none⟩), .string s, .slice A0 data.length cap0] w fun e w' => e = .returned (.int .i64 (wrA (As i) s data).2) ∧ Mny w0 w' Q n D (m + 1) (fun j => if j = i then (wrA (As i) s data).1 else As j) ∧ ∀ k, Q k → w'.heap[k]? = w.heap[k]? :=
  h.op hi (Nat.le_succ m) (fun _ hG => Write_gd hG s A0 cap0 data hsm hd hA0 hm)
theorem Move_many (h : Mny w0 w Q n D m As) {i : Nat} (hi : i < n) (s t : ByteArray) (hsm : s.size ≤ maxLen) (htm : t.size ≤ maxLen) (hm : m < 2000) :
    Calls Try.prog 16 #[.pointer (some ⟨D i, 0, none⟩), .string s, .string t] w fun e w' => e = .returned (.int .i64 (mvA (As i) s t).2) ∧ Mny w0 w' Q n D (m + 1) (fun j => if j = i then (mvA (As i) s t).1 else As j) ∧ ∀ k, Q k → w'.heap[k]? = w.heap[k]? :=
  h.op hi (Nat.le_succ m) (fun _ hG => Move_gd hG s t hsm htm hm)
theorem Drop_many (h : Mny w0 w Q n D m As) {i : Nat} (hi : i < n) (s : ByteArray) (hsm : s.size ≤ maxLen) (hm : m < 2000) :
    Calls Try.prog 17 #[.pointer (some ⟨D i, 0, none⟩), .string s] w fun e w' => e = .returned (.int .i64 (drA (As i) s).2) ∧ Mny w0 w' Q n D (m + 1) (fun j => if j = i then (drA (As i) s).1 else As j) ∧ ∀ k, Q k → w'.heap[k]? = w.heap[k]? :=
  h.op hi (Nat.le_succ m) (fun _ hG => Drop_gd hG s hsm hm)
theorem Sync_many (h : Mny w0 w Q n D m As) {i : Nat} (hi : i < n) (hm : m < 2000) :
    Calls Try.prog 18 #[.pointer (some ⟨D i, 0, none⟩)] w fun e w' => e = .returned (.int .i64 (syA (As i)).2) ∧ Mny w0 w' Q n D (m + 1) (fun j => if j = i then (syA (As i)).1 else As j) ∧ ∀ k, Q k → w'.heap[k]? = w.heap[k]? :=
  h.op hi (Nat.le_succ m) (fun _ hG => Sync_gd hG hm)
theorem Crash_many (h : Mny w0 w Q n D m As) {i : Nat} (hi : i < n) (keep torn : Int) (hm : m < 2000) :
    Calls Try.prog 22 #[.pointer (some ⟨D i, 0, none⟩), .int .i64 keep, .int .i64 torn] w fun e w' => e = .returned (.tuple #[]) ∧ Mny w0 w' Q n D m (fun j => if j = i then crA (As i) keep torn else As j) ∧ ∀ k, Q k → w'.heap[k]? = w.heap[k]? :=
  h.op hi (Nat.le_refl m) (fun _ hG => Crash_gd hG keep torn hm)
theorem Fuse_many (h : Mny w0 w Q n D m As) {i : Nat} (hi : i < n) (k : Int) (hk : k ≤ 9223372036854775807) :
    Calls Try.prog 21 #[.pointer (some ⟨D i, 0, none⟩), .int .i64 k] w fun e w' => e = .returned (.tuple #[]) ∧ Mny w0 w' Q n D m (fun j => if j = i then fuA (As i) k else As j) ∧ ∀ k, Q k → w'.heap[k]? = w.heap[k]? :=
  h.op hi (Nat.le_refl m) (fun _ hG => Fuse_gd hG k hk)
/-- a Read, its bytes as a slice that shows what it is -/
theorem Read_many (h : Mny w0 w Q n D m As) {i : Nat} (hi : i < n) (s : ByteArray) (hsm : s.size ≤ maxLen) :
    Calls Try.prog 19 #[.pointer (some ⟨D i, 0, none⟩), .string s] w fun e w' => ∃ B c, e = .returned (.tuple #[.slice B (rdA (As i) s).1.length c, .int .i64 (rdA (As i) s).2]) ∧ RdB w' (.slice B (rdA (As i) s).1.length c) (rdA (As i) s).1 ∧ (∀ g, (Value.slice B (rdA (As i) s).1.length c).ownBlock = some g → w.heap.size ≤ g) ∧ Fr (fun _ => False) w w' := by
  obtain ⟨σ, h1⟩ := h.get hi
  refine (Read_gd h1 s hsm).mono ?_
  rintro e w' ⟨u, rfl, hr, hfr, hf⟩
  obtain ⟨B, c, rfl, _, _, _⟩ := hr.form
  exact ⟨B, c, rfl, hr, hfr, hf⟩
theorem Names_many (h : Mny w0 w Q n D m As) {i : Nat} (hi : i < n) (ho : (As i).off = false) (hm : m ≤ 2000) : Calls Try.prog 27 #[.pointer (some ⟨D i, 0, none⟩)] w (NamesPost w (As i)) := by
  obtain ⟨σ, h1⟩ := h.get hi
  exact Names_gd h1 ho hm
end

end Go.Proofs.Ytpljmoiemmaecaa
