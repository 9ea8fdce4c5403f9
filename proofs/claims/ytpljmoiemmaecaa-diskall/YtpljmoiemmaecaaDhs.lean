/- The law DiskSwaps, walked. -/
import Derived.Test.YtpljmoiemmaecaaDh
namespace Go.Proofs.Ytpljmoiemmaecaa
open Go.RowKit

def sNow : ByteArray := ⟨#[110, 111, 119]⟩
def sSoon : ByteArray := ⟨#[115, 111, 111, 110]⟩
theorem n_now : Dx.name sNow = true := by decide
theorem n_soon : Dx.name sSoon = true := by decide
theorem ready1 {A : Ab} {s : ByteArray} (hn : Dx.name s = true) (ho : A.off = false) : readyR A.off [s] = 0 := by
  unfold readyR
  rw [ho]
  simp [hn]
theorem ready2 {A : Ab} {s t : ByteArray} (hn : Dx.name s = true) (ht : Dx.name t = true) (ho : A.off = false) : readyR A.off [s, t] = 0 := by
  unfold readyR
  rw [ho]
  simp [hn, ht]
/-- a plain disk without a fuse -/
def pl (now safe : Fl) (pend : List AC) (st : Int) : Ab := ⟨now, safe, pend, 1048576, 0, st, false⟩
theorem pl_new : newA 1048576 = pl [] [] [] 0 := rfl
theorem pl_write {now safe : Fl} {pend : List AC} {st : Int} {s : ByteArray} {data : List Int} (hn : Dx.name s = true) (hl : used now + data.length ≤ 1048576) :
    wrA (pl now safe pend st) s data = (pl (act now ⟨0, s, ⟨#[]⟩, data⟩) safe (pend ++ [⟨0, s, ⟨#[]⟩, data⟩]) (st + 1), 0) := by
  unfold wrA
  rw [ready1 hn rfl, if_pos rfl, if_neg (by simp only [pl]; omega)]
  rfl
theorem pl_sync {now safe : Fl} {pend : List AC} {st : Int} : syA (pl now safe pend st) = (pl now now [] (st + 1), 0) := rfl
theorem pl_move {now safe : Fl} {pend : List AC} {st : Int} {s t : ByteArray} (hn : Dx.name s = true) (ht : Dx.name t = true) (hst : s ≠ t) (hl : lk now s ≠ none) :
    mvA (pl now safe pend st) s t = (pl (act now ⟨1, s, t, []⟩) safe (pend ++ [⟨1, s, t, []⟩]) (st + 1), 0) := by
  unfold mvA
  rw [ready2 hn ht rfl, if_pos rfl, if_neg (show ¬ lk (pl now safe pend st).now s = none from hl), if_neg hst]
  rfl

/-- the files behind a swap -/
def swA (a b : List Int) : Ab := pl (act [(sNow, a), (sSoon, b)] ⟨1, sSoon, sNow, []⟩) [(sNow, a), (sSoon, b)] [⟨1, sSoon, sNow, []⟩] 5
theorem sw1 (a : List Int) : act [] ⟨0, sNow, ⟨#[]⟩, a⟩ = [(sNow, a)] := by simp [act, put, lk]
theorem sw2 (a b : List Int) : act [(sNow, a)] ⟨0, sSoon, ⟨#[]⟩, b⟩ = [(sNow, a), (sSoon, b)] := by
  have h : bl sNow sSoon := by decide
  simp [act, put, lk, h]
theorem sw_yes (a b : List Int) (keep torn : Int) (hk : 0 < keep) : rdA (crA (swA a b) keep torn) sNow = (b, 0) ∧ rdA (crA (swA a b) keep torn) sSoon = ([], 4) := by
  have hK : kept (swA a b) keep = 1 := by unfold kept; simp [swA, pl]; omega
  have hl : left (swA a b) keep torn = [⟨1, sSoon, sNow, []⟩] := by
    unfold left
    rw [hK]
    simp [swA, pl]
  have hb : bl sNow sSoon := by decide
  have hi := bl_irr sNow
  have hi2 := bl_irr sSoon
  have hn := bl_asym hb
  have ha : acts [(sNow, a), (sSoon, b)] [⟨1, sSoon, sNow, []⟩] = [(sNow, b)] := by
    simp [acts, act, put, del, lk, hb, hi, hi2]
  have hc : crA (swA a b) keep torn = ⟨[(sNow, b)], [(sNow, b)], [], 1048576, 0, 5, false⟩ := by
    unfold crA
    rw [hl]
    show (⟨acts [(sNow, a), (sSoon, b)] _, acts [(sNow, a), (sSoon, b)] _, [], 1048576, 0, 5, false⟩ : Ab) = _
    rw [ha]
  have hne : sNow ≠ sSoon := by decide
  rw [hc]
  unfold rdA
  rw [ready1 n_now rfl, ready1 n_soon rfl]
  simp [lk, hb, hi]
theorem sw_no (a b : List Int) (keep torn : Int) (hk : keep ≤ 0) : rdA (crA (swA a b) keep torn) sNow = (a, 0) ∧ rdA (crA (swA a b) keep torn) sSoon = (b, 0) := by
  have hK : kept (swA a b) keep = 0 := by unfold kept; simp [swA, pl]; omega
  have hl : left (swA a b) keep torn = [] := by
    unfold left
    rw [hK]
    simp [swA, pl]
  have hb : bl sNow sSoon := by decide
  have hi := bl_irr sNow
  have hi2 := bl_irr sSoon
  have hc : crA (swA a b) keep torn = ⟨[(sNow, a), (sSoon, b)], [(sNow, a), (sSoon, b)], [], 1048576, 0, 5, false⟩ := by
    unfold crA
    rw [hl]
    rfl
  rw [hc]
  unfold rdA
  rw [ready1 n_now rfl, ready1 n_soon rfl]
  simp [lk, hb, hi, hi2]

set_option maxRecDepth 100000 in
set_option maxHeartbeats 600000 in
theorem diskSwaps_law (a b : List Int) (A B : Option Addr) (ca cb : Nat) (keep torn : Int) (w : World) (ha : Rd w .u8 A a) (hb : Rd w .u8 B b) (hA : A = none → ca = 0) (hB : B = none → cb = 0) (hca : a.length ≤ maxLen) (hcb : b.length ≤ maxLen) :
    Calls Try.prog 6 #[.slice A a.length ca, .slice B b.length cb, .int .i64 keep, .int .i64 torn] w fun e w' => e = .returned (.bool true) ∧ Fr (fun _ => False) w w' := by
  unfold maxLen at hca hcb
  go_enter Try.func6, Try.ntmps6
  go_wp2_with fail
  refine (head4_any w).mono ?_
  rintro e w1 ⟨rfl, hf1⟩
  by_cases hla : (300 : Int) < (a.length : Int)
  · have hd : decide ((300 : Int) < (a.length : Int)) = true := by simpa using hla
    go_wp2
    go_ret
    exact ⟨rfl, hf1⟩
  have hd : decide ((300 : Int) < (a.length : Int)) = false := by simpa using hla
  by_cases hlb : (300 : Int) < (b.length : Int)
  · have hd : decide ((300 : Int) < (b.length : Int)) = true := by simpa using hlb
    go_wp2
    go_ret
    exact ⟨rfl, hf1⟩
  have hd2 : decide ((300 : Int) < (b.length : Int)) = false := by simpa using hlb
  go_wp2_with fail
  refine (New_on w1 1048576).mono ?_
  rw [pl_new]
  rintro e w2 ⟨rfl, h2⟩
  go_wp2_with fail
  refine (Write_on h2 sNow A ca a (by decide) ((ha.fr hf1).fr h2.fr) hA (by omega)).mono ?_
  rw [pl_write n_now (by simp [used]; omega), sw1]
  rintro e w3 ⟨rfl, h3⟩
  go_wp2_with fail
  refine (Sync_on h3 (by omega)).mono ?_
  rw [pl_sync]
  rintro e w4 ⟨rfl, h4⟩
  go_wp2_with fail
  refine (Write_on h4 sSoon B cb b (by decide) ((hb.fr hf1).fr h4.fr) hB (by omega)).mono ?_
  rw [pl_write n_soon (by simp [used]; omega), sw2]
  rintro e w5 ⟨rfl, h5⟩
  go_wp2_with fail
  refine (Sync_on h5 (by omega)).mono ?_
  rw [pl_sync]
  rintro e w6 ⟨rfl, h6⟩
  go_wp2_with fail
  refine (Move_on h6 sSoon sNow (by decide) (by decide) (by omega)).mono ?_
  rw [pl_move n_soon n_now (by decide) (by simp [lk, show bl sNow sSoon by decide, bl_irr])]
  rintro e w7 ⟨rfl, h7⟩
  go_wp2_with fail
  refine (Crash_on (A := swA a b) h7 keep torn (by omega)).mono ?_
  rintro e w8 ⟨rfl, h8⟩
  go_wp2_with fail
  refine (Read_on h8 sNow (by decide)).mono ?_
  by_cases hk : 0 < keep
  · obtain ⟨r1, r2⟩ := sw_yes a b keep torn hk
    have hdk : decide (0 < keep) = true := by simpa using hk
    rw [r1]
    rintro e w9 ⟨X, cx, rfl, hr, _, h9, _⟩
    go_wp2_with fail
    refine (Read_on h9 sSoon (by decide)).mono ?_
    rw [r2]
    rintro e w10 ⟨Y, cy, rfl, _, _, h10, hf10⟩
    have kx := conv_rdb (hr.fr hf10 (fun _ _ h => h))
    have kb := conv_rd4 (cap := cb) ((hb.fr hf1).fr h10.fr)
    have ts := str_self (strOfNums b)
    have hfr := hf1.trans h10.fr
    clear h2 h3 h4 h5 h6 h7 h8 h9 h10 hr
    go_wp2
    go_ret
    exact ⟨rfl, hfr⟩
  · obtain ⟨r1, r2⟩ := sw_no a b keep torn (by omega)
    have hdk : decide (0 < keep) = false := by simpa using hk
    rw [r1]
    rintro e w9 ⟨X, cx, rfl, hr, _, h9, _⟩
    go_wp2_with fail
    refine (Read_on h9 sSoon (by decide)).mono ?_
    rw [r2]
    rintro e w10 ⟨Y, cy, rfl, _, _, h10, hf10⟩
    have kx := conv_rdb (hr.fr hf10 (fun _ _ h => h))
    have kb := conv_rd4 (cap := ca) ((ha.fr hf1).fr h10.fr)
    have ts := str_self (strOfNums a)
    have hfr := hf1.trans h10.fr
    clear h2 h3 h4 h5 h6 h7 h8 h9 h10 hr
    go_wp2
    go_ret
    exact ⟨rfl, hfr⟩

end Go.Proofs.Ytpljmoiemmaecaa
