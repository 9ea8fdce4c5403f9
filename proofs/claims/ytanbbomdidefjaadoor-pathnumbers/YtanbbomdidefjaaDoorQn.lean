/- The law PathNumbers, walked. -/
import Derived.Test.YtanbbomdidefjaaDoorQb
import Derived.Test.YtanbbomdidefjaaDoorQm
import Derived.Test.YtanbbomdidefjaaDoorPh
import Derived.Deep.RegionHeld3
namespace Go.Proofs.YtanbbomdidefjaaDoor
open Go.RowKit Go.Shelf Go.Lib
attribute [local go_sem] Oper.semAt_some

theorem run_mkb (w : World) : (Instr.makeMap 46 none).run Tryd.prog w = .ok (.map (some w.heap.size)) (w.alloc (.map #[] 0)) := by
  simp [Instr.makeMap]
def sA : ByteArray := ⟨#[97]⟩
/-- the things: all alike -/
def aa (n : Nat) : List Value := (List.replicate n sA).map Value.string
theorem aa_len (n : Nat) : (aa n).length = n := by simp [aa]
theorem aa_mem {n : Nat} {u : Value} (h : u ∈ aa n) : u = .string sA := by
  simp [aa] at h
  exact h.2
theorem aa_of {l : List Value} {n : Nat} (h1 : l.length = n) (h2 : ∀ u ∈ l, u = .string sA) : l = aa n := by
  rw [aa, List.map_replicate, List.eq_replicate_iff]
  exact ⟨h1, h2⟩
theorem aa_set (n i : Nat) : (aa n).set i (.string sA) = aa n := aa_of (by simp [aa]) (fun u hu => by
  rcases List.mem_or_eq_of_mem_set hu with h | h
  · exact aa_mem h
  · exact h)
theorem aa_ins (n c : Nat) (hc : c ≤ n) : insAt (aa n) c (.string sA) = aa (n + 1) := aa_of (by rw [len_insAt _ _ _ (by rw [aa_len]; exact hc), aa_len]) (fun u hu => by
  rcases (mem_insAt _ _ _ _).1 hu with h | h
  · exact h
  · exact aa_mem h)
theorem mem_old {ns : List Int} {z : Int} (h : z ∈ ns) (t : Int) : (if t = z then true else decide (t ∈ ns)) = decide (t ∈ ns) := by
  by_cases e : t = z
  · rw [if_pos e, e, decide_eq_true h]
  · rw [if_neg e]
theorem mem_new (ns : List Int) (z : Int) (c : Nat) (t : Int) : (if t = z then true else decide (t ∈ ns)) = decide (t ∈ insAt ns c z) := by
  by_cases e : t = z
  · rw [if_pos e, decide_eq_true ((mem_insAt _ _ _ _).2 (.inl e))]
  · rw [if_neg e]
    exact decide_eq_decide.2 ⟨fun h => (mem_insAt _ _ _ _).2 (.inr h), fun h => ((mem_insAt _ _ _ _).1 h).resolve_left e⟩
/-- between two rounds: the table, the map, their boxes -/
structure PN (w : World) (T : Nat) (v1 v2 : Value) (ns : List Int) (p : Nat) (W : World) : Prop where
  tab : Tab 45 3 9 T T v1 v2 (ns.map (Value.int .i64)) (aa ns.length) W
  mp : MapB W (T + 1) p ns.length (fun z => decide (z ∈ ns))
  box : W.heap[T + 2]? = some (.cells #[.map (some (T + 1))] 46 (0, 0))
  res : W.heap[w.heap.size]? = some (.cells #[.bool false] 4 (0, 0))
  bw : Below w.heap.size w W
  lt : w.heap.size < T
  srt : Srt ltI ns
/-- a row's block holds a row -/
theorem own_type {W : World} {b n : Nat} {e : TypeId} {v : Value} {xs : List Value} (h : W.ownsRow b e 1 v n xs) {k : Nat} (hk : v.ownBlock = some k) : ∃ cur, W.heap[k]? = some (.cells cur e (0, 0)) := by
  rcases h.2 with ⟨rfl, _⟩ | ⟨g, cap, cur, rfl, _, hg, _⟩
  · cases hk
  · simp [Value.ownBlock] at hk
    subst hk
    exact ⟨cur, hg⟩
theorem Tab.notTS {tt e1 e2 : TypeId} {base T : Nat} {v1 v2 : Value} {xs ys : List Value} {W : World} (h : Tab tt e1 e2 base T v1 v2 xs ys W) {k : Nat} {c : Array Value} {t : TypeId} (hk : W.heap[k]? = some (.cells c t (0, 0))) (hT : k ≠ T) (h1 : t ≠ e1) (h2 : t ≠ e2) : ¬ TS T v1 v2 k := by
  rintro (e | e | e)
  · exact hT e
  · obtain ⟨cur, hc⟩ := own_type h.r1 e
    rw [hk] at hc
    injection hc with hc
    injection hc with _ hc
    exact h1 hc
  · obtain ⟨cur, hc⟩ := own_type h.r2 e
    rw [hk] at hc
    injection hc with hc
    injection hc with _ hc
    exact h2 hc
theorem Tab.notTS' {tt e1 e2 : TypeId} {base T : Nat} {v1 v2 : Value} {xs ys : List Value} {W : World} (h : Tab tt e1 e2 base T v1 v2 xs ys W) {k : Nat} {o : Obj} (hk : W.heap[k]? = some o) (ho : o.isCells = false) : ¬ TS T v1 v2 k := by
  intro hs
  obtain ⟨o', h1, h2⟩ := h.isCells k hs
  rw [hk] at h1
  cases h1
  rw [ho] at h2
  cases h2
section
variable {w : World} {T : Nat} {v1 v2 v1' v2' : Value} {ns : List Int} {p : Nat} {W W' : World}
theorem PN.box_lt (h : PN w T v1 v2 ns p W) : T + 2 < W.heap.size := (Array.getElem?_eq_some_iff.1 h.box).1
theorem PN.nt (h : PN w T v1 v2 ns p W) : ¬ TS T v1 v2 (T + 2) ∧ ¬ TS T v1 v2 (T + 1) ∧ ¬ TS T v1 v2 w.heap.size := by
  obtain ⟨o, ho, hc⟩ := h.mp.block
  exact ⟨h.tab.notTS h.box (by omega) (by decide) (by decide), h.tab.notTS' ho hc, fun hs => by have := (h.tab.in_ _ hs).1; have := h.lt; omega⟩
/-- the boxes and the map behind a call that turns the table alone -/
theorem PN.far (h : PN w T v1 v2 ns p W) (hf : Frm (TS T v1 v2) W W') : MapB W' (T + 1) p ns.length (fun z => decide (z ∈ ns)) ∧ W'.heap[T + 2]? = some (.cells #[.map (some (T + 1))] 46 (0, 0)) ∧ W'.heap[w.heap.size]? = some (.cells #[.bool false] 4 (0, 0)) ∧ Below w.heap.size w W' := by
  obtain ⟨n1, n2, n3⟩ := h.nt
  have hlt := h.box_lt
  have := h.lt
  refine ⟨h.mp.ofBlock (hf.block _ (by omega) n2), (hf.block _ (by omega) n1).trans h.box, (hf.block _ (by omega) n3).trans h.res, h.bw.trans (hf.toBelow (by omega) (fun k hk => ?_))⟩
  have := (h.tab.in_ k hk).1
  omega
theorem Tab.mapTurned {xs ys : List Value} (h : Tab 45 3 9 T T v1 v2 xs ys W) {n c : Nat} {S : Int → Bool} (hm : MapB W (T + 1) n c S) (hg : W.grownBy W' (some (T + 1))) : Tab 45 3 9 T T v1 v2 xs ys W' := by
  obtain ⟨o, ho, hc⟩ := hm.block
  exact h.keep (S := fun k => k = T + 1) (Frm.grown hg (fun k e => by cases e; rfl)) (fun k hk e => by subst e; exact h.notTS' ho hc hk)
theorem PN.next {n c : Nat} {S : Int → Bool} {w3 : World} (hlt : w.heap.size < T) (ht : Tab 45 3 9 T T v1' v2' (ns.map (Value.int .i64)) (aa ns.length) W')
    (hm : MapB W' (T + 1) n c S) (hb : W'.heap[T + 2]? = some (.cells #[.map (some (T + 1))] 46 (0, 0))) (hr : W'.heap[w.heap.size]? = some (.cells #[.bool false] 4 (0, 0))) (hbw : Below w.heap.size w W')
    (hg : W'.grownBy w3 (some (T + 1))) (hm3 : MapB w3 (T + 1) p ns.length (fun z => decide (z ∈ ns))) (hs : Srt ltI ns) : PN w T v1' v2' ns p w3 := by
  have l1 := (Array.getElem?_eq_some_iff.1 hb).1
  have l2 := (Array.getElem?_eq_some_iff.1 hr).1
  exact ⟨ht.mapTurned hm hg, hm3, (hg.block _ l1 (by simp)).trans hb, (hg.block _ l2 (by simp; omega)).trans hr, hbw.grown hg hbw.size (fun k e => by cases e; omega), hlt, hs⟩
end
/-- a number of 64 bits, whatever -/
def norm (z : Int) : Int := if (Lit.int .i64 z).wf then z else 0
theorem norm_i64 (z : Int) : I64 (norm z) := by
  unfold norm I64
  split
  · assumption
  · decide
theorem norm_self {z : Int} (h : I64 z) : norm z = z := if_pos h
def lastOf (pre : List (Int × ByteArray)) : Int := (pre.getLast?.map (fun x => norm x.1)).getD 0
theorem lastOf_snoc (pre : List (Int × ByteArray)) (x : Int × ByteArray) : lastOf (pre ++ [x]) = norm x.1 := by simp [lastOf]
theorem ok_pre {ns : List Int} {ts : List ByteArray} (hl : ts.length = ns.length) (hs : Srt ltI ns) (h64 : ∀ z ∈ ns, I64 z) {pre : List (Int × ByteArray)} {x : Int × ByteArray} (h : pre ++ [x] <+: ns.zip ts) :
    norm x.1 ∈ ns ∧ (0 < pre.length → lastOf pre < norm x.1) := by
  have h1 : (pre ++ [x]).map Prod.fst <+: ns := by
    have := h.map Prod.fst
    rwa [List.map_fst_zip (by omega)] at this
  rw [List.map_append] at h1
  have hx : x.1 ∈ ns := h1.subset (by simp)
  rw [norm_self (h64 _ hx)]
  refine ⟨hx, fun hp => ?_⟩
  have hpw : (pre.map Prod.fst ++ [x].map Prod.fst).Pairwise (fun a b => ltI a b = true) := List.Pairwise.sublist h1.sublist hs
  have hne : pre ≠ [] := fun e => by simp [e] at hp
  obtain ⟨y, hy⟩ : ∃ y, pre.getLast? = some y := ⟨_, List.getLast?_eq_some_getLast hne⟩
  have hym : y ∈ pre := List.mem_of_getLast? hy
  have hyn : y.1 ∈ ns := h1.subset (List.mem_append_left _ (List.mem_map_of_mem hym))
  have := (List.pairwise_append.1 hpw).2.2 y.1 (List.mem_map_of_mem hym) x.1 (by simp)
  simp only [lastOf, hy, Option.map_some, Option.getD_some]
  rw [norm_self (h64 _ hyn)]
  simpa [ltI] using this

/-- between two rounds of the second loop -/
structure PL (w : World) (T R : Nat) (v1 v2 : Value) (ns : List Int) (p k : Nat) (l : Int) (W : World) : Prop where
  pn : PN w T v1 v2 ns p W
  bl : W.heap[R]? = some (.cells #[.int .i64 l] 3 (0, 0))
  bk : W.heap[R + 1]? = some (.cells #[.int .i64 k] 3 (0, 0))
  gt : T + 2 < R
  ts : ∀ j, TS T v1 v2 j → j < R
section
variable {w : World} {T R B : Nat} {v1 v2 : Value} {ns : List Int} {p k : Nat} {l : Int} {W W' : World}
theorem PL.keep {S : Nat → Prop} (h : PL w T R v1 v2 ns p k l W) (hf : Frm S W W') (hS : ∀ j, S j → R + 1 < j) : PL w T R v1 v2 ns p k l W' := by
  have l1 := (Array.getElem?_eq_some_iff.1 h.bk).1
  have hg := h.gt
  have hlt := h.pn.lt
  have key : ∀ j, j < R + 2 → W'.heap[j]? = W.heap[j]? := fun j hj => hf.block j (by omega) (fun hs => by have := hS j hs; omega)
  exact ⟨⟨h.pn.tab.keep hf (fun j hj hs => by have := hS j hs; have := h.ts j hj; omega), h.pn.mp.ofBlock (key _ (by omega)), (key _ (by omega)).trans h.pn.box, (key _ (by omega)).trans h.pn.res, h.pn.bw.trans (hf.toBelow (by omega) (fun j hj => by have := hS j hj; omega)), h.pn.lt, h.pn.srt⟩, (key _ (by omega)).trans h.bl, (key _ (by omega)).trans h.bk, h.gt, h.ts⟩
theorem PL.own (hB : R + 1 < B) (f : List (Int × ByteArray) → Nat) (g : List (Int × ByteArray) → Int) : OwnFrom B (fun s W => PL w T R v1 v2 ns p (f s) (g s) W) := by
  rintro s X Y row h hg hr
  exact h.keep (S := fun j => row = some j) (Frm.grown hg (fun j e => e)) (fun j e => by have := (hr j e).1; omega)
theorem PL.cells (h : PL w T R v1 v2 ns p k l W) : W.cell? ⟨R, 0, none⟩ = some (.int .i64 l) ∧ W.cell? ⟨R + 1, 0, none⟩ = some (.int .i64 k) ∧ W.cell? ⟨T + 1 + 1, 0, none⟩ = some (.map (some (T + 1))) ∧ W.cell? ⟨w.heap.size, 0, none⟩ = some (.bool false) := by
  refine ⟨?_, ?_, ?_, ?_⟩
  · rw [cell_of_row W _ _ _ _ _ h.bl]; rfl
  · rw [cell_of_row W _ _ _ _ _ h.bk]; rfl
  · rw [cell_of_row W _ _ _ _ _ h.pn.box]; rfl
  · rw [cell_of_row W _ _ _ _ _ h.pn.res]; rfl
theorem PL.fz (h : PL w T R v1 v2 ns p k l W) : W.frozen? ⟨R, 0, none⟩ = false ∧ W.frozen? ⟨R + 1, 0, none⟩ = false ∧ W.frozen? ⟨w.heap.size, 0, none⟩ = false := by
  refine ⟨?_, ?_, ?_⟩
  · simp [World.frozen?, h.bl]
  · simp [World.frozen?, h.bk]
  · simp [World.frozen?, h.pn.res]
/-- the two boxes turned -/
theorem PL.set (h : PL w T R v1 v2 ns p k l W) (k' : Nat) (l' : Int) : PL w T R v1 v2 ns p k' l' ((W.setCell ⟨R, 0, none⟩ (.int .i64 l')).setCell ⟨R + 1, 0, none⟩ (.int .i64 k')) := by
  obtain ⟨W2, hW2⟩ : ∃ W2, (W.setCell ⟨R, 0, none⟩ (.int .i64 l')).setCell ⟨R + 1, 0, none⟩ (.int .i64 k') = W2 := ⟨_, rfl⟩
  have hf : Frm (fun j => j = R ∨ j = R + 1) W W2 := by
    rw [← hW2]
    exact (Frm.set (p := ⟨R, 0, none⟩) _ (.inl rfl)).trans (Frm.set (p := ⟨R + 1, 0, none⟩) _ (.inr rfl))
  have hl' : W2.heap[R]? = some (.cells #[.int .i64 l'] 3 (0, 0)) := by
    rw [← hW2, Below.heap_setCell _ ⟨R + 1, 0, none⟩ _ R (by simp)]
    simp [World.setCell, Array.getElem?_modify, h.bl]
  have hk' : W2.heap[R + 1]? = some (.cells #[.int .i64 k'] 3 (0, 0)) := by
    rw [← hW2]
    have : (W.setCell ⟨R, 0, none⟩ (.int .i64 l')).heap[R + 1]? = some (.cells #[.int .i64 k] 3 (0, 0)) := (Below.heap_setCell _ ⟨R, 0, none⟩ _ (R + 1) (by simp)).trans h.bk
    rw [World.setCell]
    simp [Array.getElem?_modify, this]
  have l1 := (Array.getElem?_eq_some_iff.1 h.bk).1
  have hg := h.gt
  have hlt := h.pn.lt
  have key : ∀ j, j < R → W2.heap[j]? = W.heap[j]? := fun j hj => hf.block j (by omega) (fun hs => by omega)
  rw [hW2]
  exact ⟨⟨h.pn.tab.keep hf (fun j hj hs => by have := h.ts j hj; omega), h.pn.mp.ofBlock (key _ (by omega)), (key _ (by omega)).trans h.pn.box, (key _ (by omega)).trans h.pn.res, h.pn.bw.trans (hf.toBelow (by omega) (fun j hj => by omega)), h.pn.lt, h.pn.srt⟩, hl', hk', h.gt, h.ts⟩
theorem SrcIS.set {ts : List ByteArray} {B0 base : Nat} (h : SrcIS B0 base T v1 v2 ns ts W) (hB : B0 = R + 2) (hts : ∀ j, TS T v1 v2 j → j < R) (a b : Value) : SrcIS B0 base T v1 v2 ns ts ((W.setCell ⟨R, 0, none⟩ a).setCell ⟨R + 1, 0, none⟩ b) :=
  h.keep (S := fun j => j = R ∨ j = R + 1) ((Frm.set (p := ⟨R, 0, none⟩) _ (.inl rfl)).trans (Frm.set (p := ⟨R + 1, 0, none⟩) _ (.inr rfl))) (by omega) (fun j hj hs => by have := hts j hj; omega)
end
end Go.Proofs.YtanbbomdidefjaaDoor
