/- Contracts of ready, Free, Fuse, and of a volume's apply. -/
import Derived.Test.YtpljmoiemmaecaaDs
namespace Go.Proofs.Ytpljmoiemmaecaa
open Go.RowKit

/-- a slice of names -/
def RdN (w : World) (A : Option Addr) (xs : List ByteArray) : Prop :=
  xs = [] ∨ ∃ b off, A = some ⟨b, off, none⟩ ∧ ∀ i s, xs[i]? = some s → w.cell? ⟨b, off + i, none⟩ = some (.string s)
theorem RdN.pos {w : World} {A : Option Addr} {xs : List ByteArray} (h : RdN w A xs) (hx : 0 < xs.length) : ∃ b off, A = some ⟨b, off, none⟩ ∧ ∀ i s, xs[i]? = some s → w.cell? ⟨b, off + i, none⟩ = some (.string s) := by
  rcases h with rfl | h
  · simp at hx
  · exact h
def readyR (off : Bool) (ns : List ByteArray) : Int := if ns.all Dx.name then (if off then 10 else 0) else 1

theorem ready_nil (A : Option Addr) (n cap : Nat) (w : World) : Calls Try.prog 31 #[.pointer none, .slice A n cap] w fun e w' => e = .returned (.int .i64 1) ∧ w = w' := by
  go_enter Try.func31, Try.ntmps31
  go_wp2
  go_ret
  exact ⟨rfl, rfl⟩
set_option maxHeartbeats 400000 in
theorem ready_any (mn ms : Option Nat) (un us room fuse steps : Int) (pv : Value) (off : Bool) (w : World) (d : Nat) (ns : List ByteArray) (A : Option Addr) (cap : Nat)
    (h : Cel w d 61 (dc mn un ms us pv room fuse steps off)) (hr : RdN w A ns) (hn : ns.length ≤ 10) (hz : ∀ s ∈ ns, s.size ≤ maxLen) :
    Calls Try.prog 31 #[.pointer (some ⟨d, 0, none⟩), .slice A ns.length cap] w fun e w' => e = .returned (.int .i64 (readyR off ns)) ∧ w = w' := by
  have h8 := (h.cell 8).trans dc8
  have HZ := Lib.hid hz
  clear hz
  go_enter Try.func31, Try.ntmps31
  go_wp2
  go_loop [11] (fun i => ∃ k : Nat, k ≤ ns.length ∧ i = .int .i64 k ∧ (ns.take k).all Dx.name = true) (fun i => ns.length - (intOf i).toNat)
  case atStart => exact ⟨0, by omega, rfl, rfl⟩
  case round =>
    obtain ⟨k, hk, rfl, hall⟩ := hrel
    have HA := Lib.hid hall
    clear hall
    by_cases hlt : k < ns.length
    · obtain ⟨b, o, rfl, hc⟩ := hr.pos (by omega)
      have hck := hc k _ (List.getElem?_eq_getElem hlt)
      have hsz := HZ.out _ (List.getElem_mem hlt)
      obtain ⟨s, hs⟩ : ∃ s, ns[k] = s := ⟨_, rfl⟩
      rw [hs] at hck hsz
      have HS := Lib.hid hs
      clear hc hr hs
      cases hb : Dx.name s with
      | true =>
        go_wp2_with (go_at_call 28; refine (Named_any _ _ hsz).mono ?_; rintro e w' ⟨rfl, rfl⟩)
        go_round
        case rel =>
          refine ⟨k + 1, by omega, by go_num, ?_⟩
          rw [List.take_succ_eq_append_getElem hlt, HS.out, List.all_append, HA.out]
          simp [hb]
        case measure => simp [intOf]; omega
      | false =>
        go_wp2_with (go_at_call 28; refine (Named_any _ _ hsz).mono ?_; rintro e w' ⟨rfl, rfl⟩)
        go_ret
        refine ⟨?_, rfl⟩
        have : ns.all Dx.name = false := by
          rw [List.all_eq_false]
          exact ⟨s, by rw [← HS.out]; exact List.getElem_mem hlt, by simp [hb]⟩
        unfold readyR
        rw [this]
        rfl
    · obtain rfl : k = ns.length := by omega
      rw [List.take_length] at HA
      cases off
      all_goals
        go_wp2
        go_ret
        refine ⟨?_, rfl⟩
        unfold readyR
        rw [HA.out]
        rfl

section
variable (mn ms : Option Nat) (un us room fuse steps : Int) (pv : Value) (off : Bool) (w : World) (d : Nat)
theorem Free_any (h : Cel w d 61 (dc mn un ms us pv room fuse steps off)) (h1 : 0 ≤ un ∧ un ≤ room) (h2 : room ≤ 1000000000) : Calls Try.prog 26 #[.pointer (some ⟨d, 0, none⟩)] w fun e w' => e = .returned (.int .i64 (room - un)) ∧ ∃ n, w' = w.drewN n := by
  have c1 := (h.cell 1).trans dc1
  have c5 := (h.cell 5).trans dc5
  go_enter Try.func26, Try.ntmps26
  go_wp2
  go_quiet (fail)
  go_wp2
  go_ret
  exact ⟨rfl, _, rfl⟩
end

theorem vwrite_any (w : World) (d o : Nat) (T : TypeId) (C : Array Value) (m : Option Nat) (n : Nat) (V : ByteArray → Option Value) (s : ByteArray) (l data : List Int) (used : Int) (B : Option Addr) (cb : Nat)
    (hC : Cel w d T C) (hT : T ≠ 5) (c0 : C[o]? = some (.map m)) (c1 : C[o + 1]? = some (.int .i64 used)) (hF : Files w m n V) (hs : s.size ≤ maxLen) (hn : n < 1000000) (hv : RdB w ((V s).getD nilS) l) (hd : RdB w (.slice B data.length cb) data)
    (hl : l.length + data.length ≤ 100000000) (hu : 0 ≤ used ∧ used ≤ 1000000000000) :
    Calls Try.prog 45 #[.pointer (some ⟨d, o, none⟩), .string s, .slice B data.length cb] w (Wrote w d o T C m n V s l data used) := by
  obtain ⟨B', cb', hBe, hB, _, hd0⟩ := hd.form
  obtain ⟨rfl, rfl⟩ : B = B' ∧ cb = cb' := by injection hBe with h1 _ h2; exact ⟨h1, h2⟩
  rcases hF with ⟨rfl, rfl⟩ | ⟨b, rfl, hM⟩
  · obtain rfl : l = [] := by
      rcases hv with ⟨_, h⟩ | ⟨g, cap, cur, h, _⟩
      · exact h
      · cases h
    exact vwrite_none w d o T C s data used B cb n hC hT c0 c1 hs hd (by simpa using hl) hu hn
  · exact vwrite_some w d o T C b n V s l data used B cb hC hT c0 c1 hM hs hn hv hd0 hB hl hu

theorem Wrote.lift {w w' : World} {ob : Obj} {d o : Nat} {T : TypeId} {C : Array Value} {m : Option Nat} {n : Nat} {V : ByteArray → Option Value} {s : ByteArray} {l data : List Int} {used : Int} {e : Ending}
    (h : Wrote (w.alloc ob) d o T C m n V s l data used e w') : Wrote w d o T C m n V s l data used e w' := by
  obtain ⟨h0, b, v', h1, h2, h3, h4, h5, h6, h7⟩ := h
  refine ⟨h0, b, v', h1, h2, ?_, h4, ?_, fun t lt h hle => h6 t lt (h.ofBlock (fun g e => Below.heap_alloc w ob g (h.lt e))) hle, (Fr.alloc w ob _).trans h7⟩
  · rcases h3 with h3 | ⟨h3, h8⟩
    · exact .inl h3
    · exact .inr ⟨h3, by simp at h8; omega⟩
  · exact h5.mono (by simp)

/-- a change as a value -/
def chg (k : Int) (s t : ByteArray) (v : Value) : Value := .agg #[.int .i64 k, .string s, .string t, v]

set_option maxHeartbeats 400000 in
theorem apply_write (w : World) (d o : Nat) (T : TypeId) (C : Array Value) (m : Option Nat) (n : Nat) (V : ByteArray → Option Value) (s t : ByteArray) (l data : List Int) (used : Int) (B : Option Addr) (cb : Nat)
    (hC : Cel w d T C) (hT : T ≠ 5) (c0 : C[o]? = some (.map m)) (c1 : C[o + 1]? = some (.int .i64 used)) (hF : Files w m n V) (hs : s.size ≤ maxLen) (hn : n < 1000000) (hv : RdB w ((V s).getD nilS) l) (hd : RdB w (.slice B data.length cb) data)
    (hl : l.length + data.length ≤ 100000000) (hu : 0 ≤ used ∧ used ≤ 1000000000000) :
    Calls Try.prog 41 #[.pointer (some ⟨d, o, none⟩), chg 0 s t (.slice B data.length cb)] w (Wrote w d o T C m n V s l data used) := by
  obtain ⟨w1, hw1⟩ : ∃ w1, w.alloc (.cells #[.int .i64 0, .string s, .string t, .slice B data.length cb] 69) = w1 := ⟨_, rfl⟩
  have hb1 : ∀ k, k < w.heap.size → w1.heap[k]? = w.heap[k]? := fun k hk => by rw [← hw1]; exact Below.heap_alloc w _ k hk
  have hup : ∀ t lt, RdB w t lt → RdB w1 t lt := fun t lt h => h.ofBlock (fun g e => hb1 g (h.lt e))
  have hc := vwrite_any w1 d o T C m n V s l data used B cb (hC.of (hb1 d hC.lt)) hT c0 c1 (hF.ofBlock (fun b hb => hb1 b (by
    rcases hF with ⟨h, _⟩ | ⟨b', h, hM⟩
    · rw [h] at hb; cases hb
    · rw [h] at hb; cases hb; exact hM.lt))) hs hn (hup _ _ hv) (hup _ _ hd) hl hu
  have hC1 : Cel w1 w.heap.size 69 #[.int .i64 0, .string s, .string t, .slice B data.length cb] := by rw [← hw1]; exact heap_alloc_new w _
  have k0 := hC1.cell 0
  have k1 := hC1.cell 1
  have k3 := hC1.cell 3
  simp at k0 k1 k3
  have HC := Lib.hid hc
  have HW := Lib.hid hw1
  clear hc hw1 c0 c1 hF hC hC1
  unfold chg
  go_enter Try.func41, Try.ntmps41
  go_wp2_with fail
  rw [HW.out]
  refine HC.out.mono ?_
  rintro e w2 h
  obtain ⟨rfl, h'⟩ := h
  have h2 : Wrote w1 d o T C m n V s l data used (.returned (.tuple #[])) w2 := ⟨rfl, h'⟩
  go_wp2
  go_end0
  rw [← HW.out] at h2
  exact h2.lift

set_option maxHeartbeats 400000 in
theorem apply_drop (w : World) (d o : Nat) (T : TypeId) (C : Array Value) (b n : Nat) (V : ByteArray → Option Value) (s t : ByteArray) (l : List Int) (used : Int) (dv : Value)
    (hC : Cel w d T C) (c0 : C[o]? = some (.map (some b))) (c1 : C[o + 1]? = some (.int .i64 used)) (hM : MapV w b n V) (hs : s.size ≤ maxLen) (hv : RdB w ((V s).getD nilS) l) (hl : l.length ≤ 100000000) (hu : 0 ≤ used ∧ used ≤ 1000000000000) (hdv : isS dv = true) :
    Calls Try.prog 41 #[.pointer (some ⟨d, o, none⟩), chg 2 s t dv] w fun e w' => e = .returned (.tuple #[]) ∧ Cel w' d T (C.setIfInBounds (o + 1) (.int .i64 (used - l.length))) ∧ MapV w' b n (fun x => if x = s then none else V x) ∧ Fr (fun k => k = d ∨ k = b) w w' := by
  obtain ⟨A, nn, cc, rfl⟩ : ∃ A nn cc, dv = .slice A nn cc := by
    unfold isS at hdv
    split at hdv
    · exact ⟨_, _, _, rfl⟩
    · exact ⟨_, _, _, rfl⟩
    · cases hdv
  obtain ⟨w1, hw1⟩ : ∃ w1, w.alloc (.cells #[.int .i64 2, .string s, .string t, .slice A nn cc] 69) = w1 := ⟨_, rfl⟩
  have hb1 : ∀ k, k < w.heap.size → w1.heap[k]? = w.heap[k]? := fun k hk => by rw [← hw1]; exact Below.heap_alloc w _ k hk
  have hc := vdrop_any w1 d o T C b n V s l used (hC.of (hb1 d hC.lt)) c0 c1 (hM.ofBlock (hb1 b hM.lt)) hs (hv.ofBlock (fun g e => hb1 g (hv.lt e))) hl hu
  have hC1 : Cel w1 w.heap.size 69 #[.int .i64 2, .string s, .string t, .slice A nn cc] := by rw [← hw1]; exact heap_alloc_new w _
  have k0 := hC1.cell 0
  have k1 := hC1.cell 1
  simp at k0 k1
  have HC := Lib.hid hc
  have HW := Lib.hid hw1
  clear hc hw1 c0 c1 hC hC1
  unfold chg
  go_enter Try.func41, Try.ntmps41
  go_wp2_with fail
  rw [HW.out]
  refine HC.out.mono ?_
  rintro e w2 ⟨rfl, h1, h2, h3⟩
  go_wp2
  go_end0
  rw [← HW.out] at h3
  exact ⟨rfl, h1, h2, (Fr.alloc w _ _).trans h3⟩

set_option maxHeartbeats 400000 in
theorem apply_move (w : World) (d o : Nat) (T : TypeId) (C : Array Value) (b n : Nat) (V : ByteArray → Option Value) (s t : ByteArray) (l : List Int) (used : Int) (dv : Value) (hst : s ≠ t) (v : Value) (hvs : (V s).getD nilS = v) (hiv : isS v = true)
    (hC : Cel w d T C) (c0 : C[o]? = some (.map (some b))) (c1 : C[o + 1]? = some (.int .i64 used)) (hM : MapV w b n V) (hs : s.size ≤ maxLen) (ht : t.size ≤ maxLen) (hv : RdB w ((V t).getD nilS) l) (hl : l.length ≤ 100000000) (hu : 0 ≤ used ∧ used ≤ 1000000000000) (hn : n < 1000000) (hdv : isS dv = true) :
    Calls Try.prog 41 #[.pointer (some ⟨d, o, none⟩), chg 1 s t dv] w fun e w' => e = .returned (.tuple #[]) ∧ Cel w' d T (C.setIfInBounds (o + 1) (.int .i64 (used - l.length))) ∧ MapV w' b (n + 1) (fun x => if x = s then none else if x = t then some v else V x) ∧ Fr (fun k => k = d ∨ k = b) w w' := by
  obtain ⟨A, nn, cc, rfl⟩ : ∃ A nn cc, dv = .slice A nn cc := by
    unfold isS at hdv
    split at hdv
    · exact ⟨_, _, _, rfl⟩
    · exact ⟨_, _, _, rfl⟩
    · cases hdv
  obtain ⟨w1, hw1⟩ : ∃ w1, w.alloc (.cells #[.int .i64 1, .string s, .string t, .slice A nn cc] 69) = w1 := ⟨_, rfl⟩
  have hb1 : ∀ k, k < w.heap.size → w1.heap[k]? = w.heap[k]? := fun k hk => by rw [← hw1]; exact Below.heap_alloc w _ k hk
  have hc := vmove_any w1 d o T C b n V s t l used hst v hvs hiv (hC.of (hb1 d hC.lt)) c0 c1 (hM.ofBlock (hb1 b hM.lt)) hs ht (hv.ofBlock (fun g e => hb1 g (hv.lt e))) hl hu hn
  have hC1 : Cel w1 w.heap.size 69 #[.int .i64 1, .string s, .string t, .slice A nn cc] := by rw [← hw1]; exact heap_alloc_new w _
  have k0 := hC1.cell 0
  have k1 := hC1.cell 1
  have k2 := hC1.cell 2
  simp at k0 k1 k2
  have HC := Lib.hid hc
  have HW := Lib.hid hw1
  clear hc hw1 c0 c1 hC hC1 hvs
  unfold chg
  go_enter Try.func41, Try.ntmps41
  go_wp2_with fail
  rw [HW.out]
  refine HC.out.mono ?_
  rintro e w2 ⟨rfl, h1, h2, h3⟩
  go_wp2
  go_end0
  rw [← HW.out] at h3
  exact ⟨rfl, h1, h2, (Fr.alloc w _ _).trans h3⟩

end Go.Proofs.Ytpljmoiemmaecaa
