/- How long what stays is, told by the names: Until, Back, Imply against the law's counters. -/
import Derived.Test.YtfkbjniodomdjaaSy
namespace Go.Proofs.Ytfkbjniodomdjaa
open Go.RowKit Go.Lib

/-- of what is asked for, from the innermost one on: how many stay -/
def cU : List Bool → Nat
  | [] => 0
  | b :: r => if b then r.length else cU r
def cB : List Bool → Nat
  | [] => 0
  | b :: r => if b then r.length + 1 else cB r
theorem cutU_len (f : Int → Bool) : ∀ l : List Int, (cutU f l).length = cU (l.map f)
  | [] => rfl
  | x :: r => by
    simp only [cutU, cU, List.map_cons]
    cases f x with
    | true => simp
    | false => simpa using cutU_len f r
theorem cutB_len (f : Int → Bool) : ∀ l : List Int, (cutB f l).length = cB (l.map f)
  | [] => rfl
  | x :: r => by
    simp only [cutB, cB, List.map_cons]
    cases f x with
    | true => simp
    | false => simpa using cutB_len f r
/-- one more at the end -/
theorem cU_snoc (l : List Bool) (b : Bool) : cU (l ++ [b]).reverse = if b then l.length else cU l.reverse := by
  rw [List.reverse_append]
  show cU (b :: l.reverse) = _
  simp [cU]
theorem cB_snoc (l : List Bool) (b : Bool) : cB (l ++ [b]).reverse = if b then l.length + 1 else cB l.reverse := by
  rw [List.reverse_append]
  show cB (b :: l.reverse) = _
  simp [cB]
section
variable {nm : List Nam} {ns : List Nd} {xs : List Int}
theorem made_map {f : Int → Bool} {p : Nam → Bool} (h : MadeR nm nm.length ns xs) (hf : ∀ (i : Nat) (nd : Nd) (x : Nam), ns[i]? = some nd → nd.kind = 2 → nd.space = spc x.2 → nd.name = x.1 → f (i : Int) = p x) : xs.map f = nm.map p := by
  obtain ⟨h1, _, h3⟩ := h
  refine List.ext_getElem? fun j => ?_
  rw [List.getElem?_map, List.getElem?_map]
  by_cases hj : j < nm.length
  · obtain ⟨i, nd, a1, a2, a3, a4, a5⟩ := h3 j nm[j] hj (List.getElem?_eq_getElem hj)
    rw [a1, List.getElem?_eq_getElem hj]
    simp only [Option.map_some]
    rw [hf i nd nm[j] a2 a3 a4 a5]
  · rw [List.getElem?_eq_none (by omega), List.getElem?_eq_none (by omega)]
    rfl
theorem isN_two (a b : ByteArray) {i : Nat} {nd : Nd} {x : Nam} (h : ns[i]? = some nd) (hk : nd.kind = 2) (hs : nd.space = spc x.2) (hn : nd.name = x.1) : isN ns (i : Int) [a, b] = isO a b x := by
  unfold isN isO
  rw [atN_some h, hk, hs, hn]
  simp [amg, sm_comm a, sm_comm b]
/-- whether an element goes, by its name: what the law reckons -/
def gO (a : ByteArray) (all : Bool) (x : Nam) : Bool := spc x.2 == 0 && !(sm x.1 a) && (amg iS x.1 || (all && amg jS x.1))
theorem gI_of (a : ByteArray) (all : Bool) {i : Nat} {nd : Nd} {x : Nam} (h : ns[i]? = some nd) (hk : nd.kind = 2) (hs : nd.space = spc x.2) (hn : nd.name = x.1) : gI ns a all (i : Int) = gO a all x := by
  unfold gI gO impN isN
  rw [atN_some h, atN_some h, atN_some h, hk, hs, hn]
  have : nmN nd = x.1 := by unfold nmN; rw [hk, hn]; rfl
  rw [this]
  cases (spc x.2 == 0) <;> cases sm x.1 a <;> cases amg iS x.1 <;> cases all <;> cases amg jS x.1 <;> rfl
theorem until_len (a b : ByteArray) (h : MadeR nm nm.length ns xs) : (cutU (fun n => isN ns n [a, b]) xs.reverse).reverse.length = cU (nm.map (isO a b)).reverse := by
  rw [List.length_reverse, cutU_len, List.map_reverse, made_map h (fun i nd x h1 h2 h3 h4 => isN_two a b h1 h2 h3 h4)]
theorem back_len (a b : ByteArray) (h : MadeR nm nm.length ns xs) : (cutB (fun n => isN ns n [a, b]) xs.reverse).reverse.length = cB (nm.map (isO a b)).reverse := by
  rw [List.length_reverse, cutB_len, List.map_reverse, made_map h (fun i nd x h1 h2 h3 h4 => isN_two a b h1 h2 h3 h4)]
theorem imply_len (a : ByteArray) (all : Bool) (h : MadeR nm nm.length ns xs) : (cutB (fun n => !(gI ns a all n)) xs.reverse).reverse.length = cB (nm.map (fun x => !(gO a all x))).reverse := by
  rw [List.length_reverse, cutB_len, List.map_reverse, made_map h (fun i nd x h1 h2 h3 h4 => by rw [gI_of a all h1 h2 h3 h4])]
end
end Go.Proofs.Ytfkbjniodomdjaa
