/- A disk that was made behind a world of old: its calls leave that one alone. -/
import Derived.Test.YtpljmoiemmaecaaAv
namespace Go.Proofs.Ytpljmoiemmaecaa
open Go.RowKit

/-- a disk made behind w0; nothing of w0 has turned -/
def On (w0 w : World) (d m : Nat) (A : Ab) : Prop := ∃ σ, Gd w d m A σ ∧ Fr (fun _ => False) w0 w ∧ ∀ k, foot d σ k → w0.heap.size ≤ k
theorem On.fr {w0 w : World} {d m : Nat} {A : Ab} (h : On w0 w d m A) : Fr (fun _ => False) w0 w := h.choose_spec.2.1
theorem On.keep {w0 w w' : World} {d m : Nat} {A : Ab} (h : On w0 w d m A) (hf : Fr (fun _ => False) w w') : On w0 w' d m A := by
  obtain ⟨σ, h1, h2, h3⟩ := h
  exact ⟨σ, h1.keep hf, h2.trans hf, h3⟩
theorem On.more {w0 w : World} {d m : Nat} {A : Ab} (h : On w0 w d m A) : On w0 w d (m + 1) A := by
  obtain ⟨σ, h1, h2, h3⟩ := h
  exact ⟨σ, h1.more, h2, h3⟩
theorem On.then {w0 w w' : World} {d m' : Nat} {A' : Ab} {σ σ' : Dv} (h2 : Fr (fun _ => False) w0 w) (h3 : ∀ k, foot d σ k → w0.heap.size ≤ k) (h' : Gd w' d m' A' σ') (hT : Thn w d σ w' σ') : On w0 w' d m' A' :=
  ⟨σ', h', h2.then hT.fr (fun k hk => .inr (h3 k hk)), fun k hk => by
    rcases hT.ft k hk with hk | hk
    · exact h3 k hk
    · exact Nat.le_trans h2.size hk⟩
theorem Rd.fr {w w' : World} {k : IntKind} {A : Option Addr} {xs : List Int} (h : Rd w k A xs) (hf : Fr (fun _ => False) w w') : Rd w' k A xs :=
  h.keep hf.size (fun p hp => World.cell?_of_block (hf.block p.block hp (fun h => h)))

theorem New_on (w : World) (room : Int) : Calls Try.prog 10 #[.int .i64 room] w fun e w' => e = .returned (.pointer (some ⟨w.heap.size, 0, none⟩)) ∧ On w w' w.heap.size 0 (newA room) := by
  refine (New_gd w room).mono ?_
  rintro e w' ⟨rfl, σ, h1, h2, h3⟩
  exact ⟨rfl, σ, h1, h2, h3⟩
theorem Write_on {w0 w : World} {d m : Nat} {A : Ab} (h : On w0 w d m A) (s : ByteArray) (A0 : Option Addr) (cap0 : Nat) (data : List Int) (hsm : s.size ≤ maxLen) (hd : Rd w .u8 A0 data) (hA0 : A0 = none → cap0 = 0) (hm : m < 2000) :
    Calls Try.prog 15 #[.pointer (some ⟨d, 0, none⟩), .string s, .slice A0 data.length cap0] w fun e w' => e = .returned (.int .i64 (wrA A s data).2) ∧ On w0 w' d (m + 1) (wrA A s data).1 := by
  obtain ⟨σ, h1, h2, h3⟩ := h
  refine (Write_gd h1 s A0 cap0 data hsm hd hA0 hm).mono ?_
  rintro e w' ⟨rfl, σ', hG, hT⟩
  exact ⟨rfl, On.then h2 h3 hG hT⟩
theorem Move_on {w0 w : World} {d m : Nat} {A : Ab} (h : On w0 w d m A) (s t : ByteArray) (hsm : s.size ≤ maxLen) (htm : t.size ≤ maxLen) (hm : m < 2000) :
    Calls Try.prog 16 #[.pointer (some ⟨d, 0, none⟩), .string s, .string t] w fun e w' => e = .returned (.int .i64 (mvA A s t).2) ∧ On w0 w' d (m + 1) (mvA A s t).1 := by
  obtain ⟨σ, h1, h2, h3⟩ := h
  refine (Move_gd h1 s t hsm htm hm).mono ?_
  rintro e w' ⟨rfl, σ', hG, hT⟩
  exact ⟨rfl, On.then h2 h3 hG hT⟩
theorem Drop_on {w0 w : World} {d m : Nat} {A : Ab} (h : On w0 w d m A) (s : ByteArray) (hsm : s.size ≤ maxLen) (hm : m < 2000) :
    Calls Try.prog 17 #[.pointer (some ⟨d, 0, none⟩), .string s] w fun e w' => e = .returned (.int .i64 (drA A s).2) ∧ On w0 w' d (m + 1) (drA A s).1 := by
  obtain ⟨σ, h1, h2, h3⟩ := h
  refine (Drop_gd h1 s hsm hm).mono ?_
  rintro e w' ⟨rfl, σ', hG, hT⟩
  exact ⟨rfl, On.then h2 h3 hG hT⟩
theorem Sync_on {w0 w : World} {d m : Nat} {A : Ab} (h : On w0 w d m A) (hm : m < 2000) :
    Calls Try.prog 18 #[.pointer (some ⟨d, 0, none⟩)] w fun e w' => e = .returned (.int .i64 (syA A).2) ∧ On w0 w' d (m + 1) (syA A).1 := by
  obtain ⟨σ, h1, h2, h3⟩ := h
  refine (Sync_gd h1 hm).mono ?_
  rintro e w' ⟨rfl, σ', hG, hT⟩
  exact ⟨rfl, On.then h2 h3 hG hT⟩
theorem Crash_on {w0 w : World} {d m : Nat} {A : Ab} (h : On w0 w d m A) (keep torn : Int) (hm : m < 2000) :
    Calls Try.prog 22 #[.pointer (some ⟨d, 0, none⟩), .int .i64 keep, .int .i64 torn] w fun e w' => e = .returned (.tuple #[]) ∧ On w0 w' d m (crA A keep torn) := by
  obtain ⟨σ, h1, h2, h3⟩ := h
  refine (Crash_gd h1 keep torn hm).mono ?_
  rintro e w' ⟨rfl, σ', hG, hT⟩
  exact ⟨rfl, On.then h2 h3 hG hT⟩
theorem Fuse_onD {w0 w : World} {d m : Nat} {A : Ab} (h : On w0 w d m A) (n : Int) (hn : n ≤ 9223372036854775807) :
    Calls Try.prog 21 #[.pointer (some ⟨d, 0, none⟩), .int .i64 n] w fun e w' => e = .returned (.tuple #[]) ∧ On w0 w' d m (fuA A n) := by
  obtain ⟨σ, h1, h2, h3⟩ := h
  refine (Fuse_gd h1 n hn).mono ?_
  rintro e w' ⟨rfl, σ', hG, hT⟩
  exact ⟨rfl, On.then h2 h3 hG hT⟩
/-- a Read, its bytes as a slice that shows what it is -/
theorem Read_on {w0 w : World} {d m : Nat} {A : Ab} (h : On w0 w d m A) (s : ByteArray) (hsm : s.size ≤ maxLen) :
    Calls Try.prog 19 #[.pointer (some ⟨d, 0, none⟩), .string s] w fun e w' => ∃ B c, e = .returned (.tuple #[.slice B (rdA A s).1.length c, .int .i64 (rdA A s).2]) ∧ RdB w' (.slice B (rdA A s).1.length c) (rdA A s).1 ∧ (∀ g, (Value.slice B (rdA A s).1.length c).ownBlock = some g → w.heap.size ≤ g) ∧ On w0 w' d m A ∧ Fr (fun _ => False) w w' := by
  obtain ⟨σ, h1, h2, h3⟩ := h
  refine (Read_gd h1 s hsm).mono ?_
  rintro e w' ⟨u, rfl, hr, hfr, hf⟩
  obtain ⟨B, c, rfl, _, _, _⟩ := hr.form
  exact ⟨B, c, rfl, hr, hfr, ⟨σ, h1.keep hf, h2.trans hf, h3⟩, hf⟩

end Go.Proofs.Ytpljmoiemmaecaa
