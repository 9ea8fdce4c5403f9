/- Contracts of num.Read, Num, Text, End. -/
import Derived.Test.YtanbbomdidefjaaNd
namespace Go.Proofs.Ytanbbomdidefjaa
open Go.RowKit

theorem Num_nil (m : Int) (w : World) : Calls Try.prog 30 #[.pointer none, .int .u64 m] w fun e w' => e = .returned (.int .u64 0) ∧ w = w' := by
  go_enter Try.func30, Try.ntmps30
  go_wp2_with (go_at_call 31; refine (Err_nil _).mono ?_; rintro e w' ⟨rfl, rfl⟩)
  go_ret
  exact ⟨rfl, rfl⟩
set_option maxHeartbeats 400000 in
theorem Num_first (g : Nat) (rest : ByteArray) (m n : Nat) (k : Nat) (err : Int) (w : World) (h : Rdr w g rest 0) (hl : rest.size ≤ 1000000) (hgo : Nx.go (bs rest) 0 0 = (n, k, err)) (he : (err != 0) = true) :
    Calls Try.prog 30 #[.pointer (some ⟨g, 0, none⟩), .int .u64 m] w (Turned w g (.int .u64 0) ⟨#[]⟩ err) := by
  have H := Lib.hid h
  have HG := Lib.hid hgo
  have h0 := h.c0
  have he2 : (err == 0) = false := by simpa using he
  clear h hgo
  go_enter Try.func30, Try.ntmps30
  go_wp2_with (first | (go_at_call 31; refine (Err_any g rest 0 _ H.out).mono ?_; rintro e w' ⟨rfl, rfl⟩) | (go_at_call 36; refine (firstNum_any rest _ (by unfold maxLen; omega)).mono ?_; rintro e w' ⟨n', k', err', hgo', rfl, rfl⟩; rw [HG.out] at hgo'; obtain ⟨rfl, rfl, rfl⟩ : n = n' ∧ k = k' ∧ err = err' := (by simpa using hgo'); clear hgo') | (go_at_call 37; refine (fail_any g rest 0 err _ H.out).mono ?_; rintro e w2 ⟨rfl, hr2, hg2⟩))
  go_ret
  exact ⟨rfl, hr2, hg2⟩
set_option maxHeartbeats 400000 in
theorem Num_many (g : Nat) (rest : ByteArray) (m n : Nat) (k : Nat) (w : World) (h : Rdr w g rest 0) (hl : rest.size ≤ 1000000) (hgo : Nx.go (bs rest) 0 0 = (n, k, 0)) (hm : m < n) :
    Calls Try.prog 30 #[.pointer (some ⟨g, 0, none⟩), .int .u64 m] w (Turned w g (.int .u64 0) ⟨#[]⟩ 3) := by
  have H := Lib.hid h
  have HG := Lib.hid hgo
  have h0 := h.c0
  clear h hgo
  go_enter Try.func30, Try.ntmps30
  go_wp2_with (first | (go_at_call 31; refine (Err_any g rest 0 _ H.out).mono ?_; rintro e w' ⟨rfl, rfl⟩) | (go_at_call 36; refine (firstNum_any rest _ (by unfold maxLen; omega)).mono ?_; rintro e w' ⟨n', k', err', hgo', rfl, rfl⟩; rw [HG.out] at hgo'; obtain ⟨rfl, rfl, rfl⟩ : n = n' ∧ k = k' ∧ 0 = err' := (by simpa using hgo'); clear hgo') | (go_at_call 37; refine (fail_any g rest 0 3 _ H.out).mono ?_; rintro e w2 ⟨rfl, hr2, hg2⟩))
  go_ret
  exact ⟨rfl, hr2, hg2⟩
set_option maxHeartbeats 400000 in
theorem Num_ok (g : Nat) (rest : ByteArray) (m n : Nat) (k : Nat) (w : World) (h : Rdr w g rest 0) (hl : rest.size ≤ 1000000) (hgo : Nx.go (bs rest) 0 0 = (n, k, 0)) (hm : n ≤ m) (hk : k ≤ rest.size) :
    Calls Try.prog 30 #[.pointer (some ⟨g, 0, none⟩), .int .u64 m] w (Turned w g (.int .u64 n) (rest.extract k rest.size) 0) := by
  have H := Lib.hid h
  have HG := Lib.hid hgo
  have h0 := h.c0
  have f0 := h.fz 0
  clear h hgo
  go_enter Try.func30, Try.ntmps30
  go_wp2_with (first | (go_at_call 31; refine (Err_any g rest 0 _ H.out).mono ?_; rintro e w' ⟨rfl, rfl⟩) | (go_at_call 36; refine (firstNum_any rest _ (by unfold maxLen; omega)).mono ?_; rintro e w' ⟨n', k', err', hgo', rfl, rfl⟩; rw [HG.out] at hgo'; obtain ⟨rfl, rfl, rfl⟩ : n = n' ∧ k = k' ∧ 0 = err' := (by simpa using hgo'); clear hgo'))
  go_ret
  exact ⟨rfl, H.out.set0 _, grown_set _ _ _ _⟩

end Go.Proofs.Ytanbbomdidefjaa
