/- The law PathNumbers, walked. -/
import Derived.Test.YtfkbjniodomdjaaDoorQb
import Derived.Test.YtfkbjniodomdjaaDoorQm
import Derived.Test.YtfkbjniodomdjaaDoorPh
import Derived.Deep.RegionHeld3
namespace Go.Proofs.YtfkbjniodomdjaaDoor
open Go.RowKit Go.Shelf Go.Lib
attribute [local go_sem] Oper.semAt_some

def sA : ByteArray := ⟨#[97]⟩
/-- the things: all alike -/
def aa (n : Nat) : List Value := (List.replicate n sA).map Value.string
theorem aa_len (n : Nat) : (aa n).length = n := by simp [aa]
theorem aa_mem {n : Nat} {u : Value} (h : u ∈ aa n) : u = .string sA := by
  simp [aa] at h
  exact h.2
theorem aa_of {l : List Value} {n : Nat} (h1 : l.length = n) (h2 : ∀ u ∈ l, u = .string sA) : l = aa n := by
  rw [aa, List.map_replicate, List.eq_replicate_iff]
  exact ⟨h1, h2⟩
theorem aa_set (n i : Nat) : (aa n).set i (.string sA) = aa n := aa_of (by simp [aa]) (fun u hu => by
  rcases List.mem_or_eq_of_mem_set hu with h | h
  · exact aa_mem h
  · exact h)
theorem aa_ins (n c : Nat) (hc : c ≤ n) : insAt (aa n) c (.string sA) = aa (n + 1) := aa_of (by rw [len_insAt _ _ _ (by rw [aa_len]; exact hc), aa_len]) (fun u hu => by
  rcases (mem_insAt _ _ _ _).1 hu with h | h
  · exact h
  · exact aa_mem h)
theorem mem_old {ns : List Int} {z : Int} (h : z ∈ ns) (t : Int) : (if t = z then true else decide (t ∈ ns)) = decide (t ∈ ns) := by
  by_cases e : t = z
  · rw [if_pos e, e, decide_eq_true h]
  · rw [if_neg e]
theorem mem_new (ns : List Int) (z : Int) (c : Nat) (t : Int) : (if t = z then true else decide (t ∈ ns)) = decide (t ∈ insAt ns c z) := by
  by_cases e : t = z
  · rw [if_pos e, decide_eq_true ((mem_insAt _ _ _ _).2 (.inl e))]
  · rw [if_neg e]
    exact decide_eq_decide.2 ⟨fun h => (mem_insAt _ _ _ _).2 (.inr h), fun h => ((mem_insAt _ _ _ _).1 h).resolve_left e⟩
/-- a row's block holds a row -/
theorem own_type {W : World} {b n : Nat} {e : TypeId} {v : Value} {xs : List Value} (h : W.ownsRow b e 1 v n xs) {k : Nat} (hk : v.ownBlock = some k) : ∃ cur, W.heap[k]? = some (.cells cur e (0, 0)) := by
  rcases h.2 with ⟨rfl, _⟩ | ⟨g, cap, cur, rfl, _, hg, _⟩
  · cases hk
  · simp [Value.ownBlock] at hk
    subst hk
    exact ⟨cur, hg⟩
theorem Tab.notTS {tt e1 e2 : TypeId} {base T : Nat} {v1 v2 : Value} {xs ys : List Value} {W : World} (h : Tab tt e1 e2 base T v1 v2 xs ys W) {k : Nat} {c : Array Value} {t : TypeId} (hk : W.heap[k]? = some (.cells c t (0, 0))) (hT : k ≠ T) (h1 : t ≠ e1) (h2 : t ≠ e2) : ¬ TS T v1 v2 k := by
  rintro (e | e | e)
  · exact hT e
  · obtain ⟨cur, hc⟩ := own_type h.r1 e
    rw [hk] at hc
    injection hc with hc
    injection hc with _ hc
    exact h1 hc
  · obtain ⟨cur, hc⟩ := own_type h.r2 e
    rw [hk] at hc
    injection hc with hc
    injection hc with _ hc
    exact h2 hc
theorem Tab.notTS' {tt e1 e2 : TypeId} {base T : Nat} {v1 v2 : Value} {xs ys : List Value} {W : World} (h : Tab tt e1 e2 base T v1 v2 xs ys W) {k : Nat} {o : Obj} (hk : W.heap[k]? = some o) (ho : o.isCells = false) : ¬ TS T v1 v2 k := by
  intro hs
  obtain ⟨o', h1, h2⟩ := h.isCells k hs
  rw [hk] at h1
  cases h1
  rw [ho] at h2
  cases h2
section
variable {w : World} {T : Nat} {v1 v2 v1' v2' : Value} {ns : List Int} {p : Nat} {W W' : World}
end
/-- a number of 64 bits, whatever -/
def norm (z : Int) : Int := if (Lit.int .i64 z).wf then z else 0
theorem norm_i64 (z : Int) : I64 (norm z) := by
  unfold norm I64
  split
  · assumption
  · decide
theorem norm_self {z : Int} (h : I64 z) : norm z = z := if_pos h
def lastOf (pre : List (Int × ByteArray)) : Int := (pre.getLast?.map (fun x => norm x.1)).getD 0
theorem lastOf_snoc (pre : List (Int × ByteArray)) (x : Int × ByteArray) : lastOf (pre ++ [x]) = norm x.1 := by simp [lastOf]
theorem ok_pre {ns : List Int} {ts : List ByteArray} (hl : ts.length = ns.length) (hs : Srt ltI ns) (h64 : ∀ z ∈ ns, I64 z) {pre : List (Int × ByteArray)} {x : Int × ByteArray} (h : pre ++ [x] <+: ns.zip ts) :
    norm x.1 ∈ ns ∧ (0 < pre.length → lastOf pre < norm x.1) := by
  have h1 : (pre ++ [x]).map Prod.fst <+: ns := by
    have := h.map Prod.fst
    rwa [List.map_fst_zip (by omega)] at this
  rw [List.map_append] at h1
  have hx : x.1 ∈ ns := h1.subset (by simp)
  rw [norm_self (h64 _ hx)]
  refine ⟨hx, fun hp => ?_⟩
  have hpw : (pre.map Prod.fst ++ [x].map Prod.fst).Pairwise (fun a b => ltI a b = true) := List.Pairwise.sublist h1.sublist hs
  have hne : pre ≠ [] := fun e => by simp [e] at hp
  obtain ⟨y, hy⟩ : ∃ y, pre.getLast? = some y := ⟨_, List.getLast?_eq_some_getLast hne⟩
  have hym : y ∈ pre := List.mem_of_getLast? hy
  have hyn : y.1 ∈ ns := h1.subset (List.mem_append_left _ (List.mem_map_of_mem hym))
  have := (List.pairwise_append.1 hpw).2.2 y.1 (List.mem_map_of_mem hym) x.1 (by simp)
  simp only [lastOf, hy, Option.map_some, Option.getD_some]
  rw [norm_self (h64 _ hyn)]
  simpa [ltI] using this

section
variable {w : World} {T R B : Nat} {v1 v2 : Value} {ns : List Int} {p k : Nat} {l : Int} {W W' : World}
end
end Go.Proofs.YtfkbjniodomdjaaDoor
