/- The sum of a frame, plain: FNV-1a, its four bytes; a byte that is turned turns the sum. -/
import Derived.Test.YtanbbomdidefjaaNx
namespace Go.Proofs.Ytanbbomdidefjaa
namespace Fx

def stp (s : Nat) (c : Int) : Nat := ((s ^^^ c.toNat) * 16777619) % 4294967296
def sumFrom (s : Nat) (l : List Int) : Nat := l.foldl stp s
def sum (l : List Int) : Nat := sumFrom 2166136261 l
theorem stp_lt (s : Nat) (c : Int) : stp s c < 4294967296 := Nat.mod_lt _ (by decide)
theorem sumFrom_lt : ∀ (l : List Int) (s : Nat), s < 4294967296 → sumFrom s l < 4294967296
  | [], _, h => h
  | c :: l, s, _ => sumFrom_lt l (stp s c) (stp_lt s c)
theorem sum_lt (l : List Int) : sum l < 4294967296 := sumFrom_lt l _ (by decide)
theorem sum_snoc (l : List Int) (c : Int) : sum (l ++ [c]) = stp (sum l) c := by
  unfold sum sumFrom
  rw [List.foldl_append, List.foldl_cons, List.foldl_nil]

/-- the law's way: the low byte alone is turned -/
theorem low_xor (s c : Nat) (hc : c < 256) : s - s % 256 + (s % 256 ^^^ c) = s ^^^ c := by
  have h1 : s ^^^ c = 256 * ((s ^^^ c) / 256) + (s ^^^ c) % 256 := (Nat.div_add_mod _ _).symm
  have h2 : (s ^^^ c) / 256 = s / 256 := by
    rw [show (256 : Nat) = 2 ^ 8 from rfl, ← Nat.shiftRight_eq_div_pow, ← Nat.shiftRight_eq_div_pow, Nat.shiftRight_xor_distrib]
    rw [Nat.shiftRight_eq_div_pow c, Nat.div_eq_of_lt (by simpa using hc), Nat.xor_zero]
  have h3 : (s ^^^ c) % 256 = s % 256 ^^^ c := by
    rw [show (256 : Nat) = 2 ^ 8 from rfl, Nat.xor_mod_two_pow, Nat.mod_eq_of_lt (a := c) (by simpa using hc)]
  have h4 := Nat.div_add_mod s 256
  rw [h1, h2, h3]
  omega
theorem xor_lt (s c : Nat) (hs : s < 4294967296) (hc : c < 256) : s ^^^ c < 4294967296 :=
  Nat.xor_lt_two_pow (n := 32) (by simpa using hs) (by have : c < 2 ^ 32 := by omega
                                                       exact this)

/-- the inverse of the prime, modulo 2^32 -/
theorem mul_inj {a b : Nat} (ha : a < 4294967296) (hb : b < 4294967296) (h : a * 16777619 % 4294967296 = b * 16777619 % 4294967296) : a = b := by
  have key : ∀ x : Nat, x < 4294967296 → (x * 16777619 % 4294967296) * 899433627 % 4294967296 = x := by
    intro x hx
    rw [Nat.mod_mul_mod, Nat.mul_assoc, show 16777619 * 899433627 = 4294967296 * 3513497 + 1 from rfl, Nat.mul_add, Nat.mul_one, Nat.add_mod, ← Nat.mul_assoc, Nat.mul_comm x, Nat.mul_assoc, Nat.mul_mod_right, Nat.zero_add, Nat.mod_mod, Nat.mod_eq_of_lt hx]
  rw [← key a ha, ← key b hb, h]
theorem stp_inj {a b : Nat} {c : Int} (ha : a < 4294967296) (hb : b < 4294967296) (hc : c.toNat < 256) (h : stp a c = stp b c) : a = b := by
  have h1 := mul_inj (xor_lt a _ ha hc) (xor_lt b _ hb hc) h
  have h2 : a ^^^ c.toNat ^^^ c.toNat = b ^^^ c.toNat ^^^ c.toNat := by rw [h1]
  rwa [Nat.xor_assoc, Nat.xor_self, Nat.xor_zero, Nat.xor_assoc, Nat.xor_self, Nat.xor_zero] at h2
theorem stp_turn {a : Nat} {c d : Int} (ha : a < 4294967296) (hc : c.toNat < 256) (hd : d.toNat < 256) (h : stp a c = stp a d) : c.toNat = d.toNat := by
  have h1 := mul_inj (xor_lt a _ ha hc) (xor_lt a _ ha hd) h
  have h2 : a ^^^ (a ^^^ c.toNat) = a ^^^ (a ^^^ d.toNat) := by rw [h1]
  rwa [← Nat.xor_assoc, Nat.xor_self, Nat.zero_xor, ← Nat.xor_assoc, Nat.xor_self, Nat.zero_xor] at h2
theorem sumFrom_inj : ∀ (l : List Int) {a b : Nat}, a < 4294967296 → b < 4294967296 → (∀ c ∈ l, c.toNat < 256) → sumFrom a l = sumFrom b l → a = b
  | [], _, _, _, _, _, h => h
  | c :: l, a, b, ha, hb, hl, h => stp_inj ha hb (hl c (by simp)) (sumFrom_inj l (stp_lt a c) (stp_lt b c) (fun x hx => hl x (by simp [hx])) h)
/-- one byte turned -/
theorem sum_turn (l r : List Int) {c d : Int} (hc : c.toNat < 256) (hd : d.toNat < 256) (hr : ∀ x ∈ r, x.toNat < 256) (hne : c.toNat ≠ d.toNat) : sum (l ++ c :: r) ≠ sum (l ++ d :: r) := by
  intro h
  unfold sum sumFrom at h
  rw [List.foldl_append, List.foldl_append] at h
  have h0 : sumFrom 2166136261 l < 4294967296 := sumFrom_lt l _ (by decide)
  have h1 : sumFrom (stp (sumFrom 2166136261 l) c) r = sumFrom (stp (sumFrom 2166136261 l) d) r := h
  exact hne (stp_turn h0 hc hd (sumFrom_inj r (stp_lt _ _) (stp_lt _ _) hr h1))

/-- the four bytes of a sum -/
def four (s : Nat) : List Int := [(s % 256 : Nat), (s / 256 % 256 : Nat), (s / 65536 % 256 : Nat), (s / 16777216 % 256 : Nat)]
theorem four_inj {a b : Nat} (ha : a < 4294967296) (hb : b < 4294967296) (h : four a = four b) : a = b := by
  unfold four at h
  simp only [List.cons.injEq, and_true] at h
  obtain ⟨h1, h2, h3, h4⟩ := h
  omega
/-- a frame's bytes -/
def frame (l : List Int) : List Int := Nx.put l.length ++ four (sum l) ++ l

end Fx
end Go.Proofs.Ytanbbomdidefjaa
