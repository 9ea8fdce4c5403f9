/- Slices of integers in memory, nil let in. Rows of bytes: slices that come in, rows of the call's own, strings of them. Slices of numbers whose rows may be longer than they are, and append onto them. What a call may turn: blocks of a set, and new ones. Appends of numbers in a region that draws its order; a slice's parts. What the laws of layer 8 do with lists of numbers: where one stands, one less, one more. -/
import Derived.WalkKit
import Derived.Below
import Derived.Deep.Draws
import Derived.Test.YtojjdnfkcigdbaaProg
import Derived.Lib.Hide
import Derived.Lib.AppendStr
import Derived.Laws.AppendOwn
import Derived.Laws.AppendOwnNone
import Derived.Laws.BytesArg
import Derived.Laws.IdiomStrings
import Derived.Laws.BitsAllLaws
import Derived.OwnWalk
import Derived.Shelf.Spec.RuneCount
import Derived.Maps.AppendAt
import Derived.Laws.Append
import Derived.RegionTactic
import Derived.Lib.Slices
import Derived.Deep.RegionLaw
import Derived.BigRegion
namespace Go.Proofs.Ytojjdnfkcigdbaa
open Go.RowKit

/-- the slice at A holds xs -/
def Rd (w : World) (k : IntKind) (A : Option Addr) (xs : List Int) : Prop :=
  xs = [] ∨ ∃ b off, A = some ⟨b, off, none⟩ ∧ b < w.heap.size ∧ ∀ i, i < xs.length → w.cell? ⟨b, off + i, none⟩ = some (.int k (xs[i]?.getD 0))

theorem Rd.keep {w w' : World} {k : IntKind} {A : Option Addr} {xs : List Int} (h : Rd w k A xs) (hs : w.heap.size ≤ w'.heap.size) (hc : ∀ p : Addr, p.block < w.heap.size → w'.cell? p = w.cell? p) : Rd w' k A xs := by
  rcases h with h | ⟨b, off, rfl, hb, h⟩
  · exact .inl h
  · exact .inr ⟨b, off, rfl, by omega, fun i hi => (hc _ hb).trans (h i hi)⟩
theorem Rd.below {w w' : World} {k : IntKind} {A : Option Addr} {xs : List Int} (h : Rd w k A xs) (hb : Below w.heap.size w w') : Rd w' k A xs :=
  h.keep hb.size fun _ hp => hb.cell hp
theorem Rd.pos {w : World} {k : IntKind} {A : Option Addr} {xs : List Int} (h : Rd w k A xs) (hx : 0 < xs.length) :
    ∃ b off, A = some ⟨b, off, none⟩ ∧ b < w.heap.size ∧ ∀ i, i < xs.length → w.cell? ⟨b, off + i, none⟩ = some (.int k (xs[i]?.getD 0)) := by
  rcases h with rfl | h
  · simp at hx
  · exact h
theorem below_drewN {B : Nat} {a w : World} (h : Below B a w) (n : Nat) : Below B a (w.drewN n) := ⟨h.os, h.tape, h.output, h.size, h.block⟩
theorem bcell {W w1 : World} (hb : Below W.heap.size W w1) : (∀ b o, b < W.heap.size → w1.cell? ⟨b, o, none⟩ = W.cell? ⟨b, o, none⟩) ∧ (∀ b o, b < W.heap.size → w1.frozen? ⟨b, o, none⟩ = W.frozen? ⟨b, o, none⟩) :=
  ⟨fun b o h => hb.cell (p := ⟨b, o, none⟩) h, fun b o h => hb.frozen (p := ⟨b, o, none⟩) h⟩
theorem Below.up {B B' : Nat} {w w' : World} (h : Below B' w w') (hB : B ≤ B') : Below B w w' := h.mono hB

/-- what a call gives that answers a slice: it reads as xs, and what lay there lies as it lay -/
def Gives (k : IntKind) (xs : List Int) (w : World) (e : Ending) (w' : World) : Prop :=
  ∃ A cap, e = .returned (.slice A xs.length cap) ∧ Rd w' k A xs ∧ xs.length ≤ cap ∧ (A = none → cap = 0) ∧ Below w.heap.size w w'

end Go.Proofs.Ytojjdnfkcigdbaa
namespace Go.Proofs.Ytojjdnfkcigdbaa
open Go.RowKit

theorem infoU8 : (Try.prog.info? 5).map (fun i => (i.zero, i.size, i.bytes)) = some (some (.int .u8 0), 1, 1) := by kernel_rfl

theorem cells_new (w : World) (l : List Value) (t : TypeId) : ∀ j u, l[j]? = some u → (w.alloc (.cells l.toArray t)).cell? ((⟨w.heap.size, 0, none⟩ : Addr).add j) = some u := by
  intro j u hu
  have : (⟨w.heap.size, 0, none⟩ : Addr).add j = ⟨w.heap.size, j, none⟩ := by unfold Addr.add; split <;> simp_all
  rw [this, World.cell?_alloc_new]
  simpa using hu
theorem ints_one {k : IntKind} (l : List Int) : ∀ u ∈ l.map (Value.int k), u.oneCell' = true := by
  intro u hu
  simp at hu
  obtain ⟨z, _, rfl⟩ := hu
  rfl
theorem Rd.add {w : World} {k : IntKind} {ad : Addr} {xs : List Int} (h : Rd w k (some ad) xs) : ∀ j u, (xs.map (Value.int k))[j]? = some u → w.cell? (ad.add j) = some u := by
  intro j u hu
  rcases h with rfl | ⟨b, off, hA, hb, hc⟩
  · simp at hu
  · obtain rfl : ad = ⟨b, off, none⟩ := by injection hA
    have hj : j < xs.length := by
      rcases Nat.lt_or_ge j xs.length with hlt | hge
      · exact hlt
      · rw [List.getElem?_eq_none (by simpa using hge)] at hu; cases hu
    rw [List.getElem?_map, List.getElem?_eq_getElem hj] at hu
    have h2 := hc j hj
    rw [List.getElem?_eq_getElem hj, Option.getD_some] at h2
    simp only [Option.map_some, Option.some.injEq] at hu
    rw [← hu, ← h2]
    rcases Nat.eq_zero_or_pos j with rfl | hj0
    · simp [Addr.add]
    · simp [Addr.add, Nat.ne_of_gt hj0]
theorem Rd.own {w : World} {k : IntKind} {base : Nat} {e : TypeId} {v : Value} {n : Nat} {xs : List Int} (h : w.ownsRow base e 1 v n (xs.map (Value.int k))) : ∃ A cap, v = .slice A xs.length cap ∧ xs.length = n ∧ n ≤ cap ∧ (A = none → cap = 0) ∧ Rd w k A xs := by
  have hl : xs.length = n := by have := h.1; simpa using this
  subst hl
  have hh := h
  rcases h.2 with ⟨rfl, hn⟩ | ⟨g, cap, cur, rfl, _, hg, hnc, _⟩
  · have hx : xs = [] := List.eq_nil_of_length_eq_zero hn
    subst hx
    exact ⟨none, 0, rfl, rfl, by simp, fun _ => rfl, .inl rfl⟩
  · refine ⟨some ⟨g, 0, none⟩, cap, rfl, rfl, hnc, (fun h => by cases h), .inr ⟨g, 0, rfl, (Array.getElem?_eq_some_iff.1 hg).1, fun i hi => ?_⟩⟩
    rw [Nat.zero_add, hh.cellAt i (by omega), List.getElem?_map, List.getElem?_eq_getElem hi]
    simp
theorem str_own {P : Program} {t e u : TypeId} (ht : P.underlying t = some (.slice e)) (he : P.underlying e = some (.int .u8)) (hu : P.underlying u = some .string) {w : World} {base n : Nat} {v : Value} {E : List Int} (h : w.ownsRow base e 1 v n (E.map (Value.int .u8))) :
    (convert t u v).run P w = .ok (.string (strOfNums E)) w := by
  obtain ⟨A, cap, rfl, hl, _, _, hrd⟩ := Rd.own h
  subst hl
  cases A with
  | none =>
    have hE : E = [] := by
      rcases hrd with h | ⟨b, off, h, _⟩
      · exact h
      · cases h
    subst hE
    exact run_convert_bytes_nil w t e ht he 0 cap u hu
  | some ad =>
    rcases hrd with hE | ⟨b, off, hA, _, hc⟩
    · subst hE
      rcases h.2 with ⟨h', _⟩ | ⟨g, cap', cur, h', _⟩
      · cases h'
      · injection h' with h1 h2 h3
        cases h1
        exact run_convert_bytes_arg w t e ht he g 0 0 cap [] rfl (fun i hi => by omega) u hu
    · injection hA with hA
      subst hA
      exact run_convert_bytes_arg w t e ht he b off E.length cap E rfl (fun i hi => by rw [hc i hi]; simp) u hu
/-- append of a slice that may be nil onto an owned row -/
theorem wpList_append_rd {P : Program} {w : World} {ops : Array Oper} {rest : List Oper} {o : Oper} {a : Act} {Q : Exit → Act → World → Prop} {s x : Operand} (hgd : o.guard = none) (t : TypeId)
    (ho : o.op = .call { callee := .builtin .append, args := #[s, x], argTypes := #[t, t] })
    (base : Nat) (e : TypeId) (i : TypeInfo) (z : Value) (bytes : Nat) (ht : P.underlying t = some (.slice e)) (hi : P.info? e = some i) (hz : i.zero = some z) (hsize : i.size = 1) (hby : i.bytes = bytes)
    (v : Value) (n : Nat) (xs : List Value) (hs : a.eval s = v) (hown : w.ownsRow base e 1 v n xs)
    (A : Option Addr) (m c : Nat) (hx : a.eval x = .slice A m c) (news : List Int) (k : IntKind) (hm : news.length = m) (hrd : Rd w k A news) (hnone : A = none → c = 0) (hzs : z.cells.size = 1)
    (h63 : n + m ≤ maxLen) (hbytes : (n + m) * bytes ≤ 140737488355328) (hbase : base ≤ w.heap.size)
    (h : ∀ v' w', w'.ownsRow base e 1 v' (n + m) (xs ++ news.map (Value.int k)) → w.grownBy w' v.ownBlock → wpList P ops Q rest (a.put o.dst v') w') : wpList P ops Q (o :: rest) a w := by
  cases A with
  | none =>
    have hn : news = [] := by
      rcases hrd with h | ⟨b, off, h, _⟩
      · exact h
      · cases h
    subst hn
    obtain rfl : m = 0 := by simpa using hm.symm
    obtain rfl : c = 0 := hnone rfl
    exact wpList_append_own_none hgd s x t ho base e i 1 ht hi v n xs hs hown hx (h v w (by simpa using hown) ⟨rfl, rfl, rfl, Nat.le_refl _, fun _ _ _ => rfl⟩)
  | some ad =>
    exact wpList_append_own w hgd s x t ho base e i z 1 bytes ht hi hz hsize hby hzs (by decide) v n xs hs hown ad m c (news.map (Value.int k)) hx (by simp [hm]) hrd.add (ints_one news) h63 hbytes hbase (fun v' w' h1 h2 _ => h v' w' h1 h2)

theorem own_keep {w w' : World} {base sz n : Nat} {e : TypeId} {v : Value} {xs : List Value} (h : w.ownsRow base e sz v n xs) (hb : Below w.heap.size w w') : w'.ownsRow base e sz v n xs :=
  h.kept (row := none) ⟨hb.os, hb.tape, hb.output, hb.size, fun k hk _ => hb.block k hk⟩ (by cases v.ownBlock <;> simp)
theorem own_far {w w' : World} {base sz n : Nat} {e : TypeId} {v : Value} {xs : List Value} {row : Option Nat} (h : w.ownsRow base e sz v n xs) (hg : w.grownBy w' row) (hne : ∀ g, v.ownBlock = some g → row = some g → False) : w'.ownsRow base e sz v n xs :=
  h.kept hg (by
    cases hv : v.ownBlock with
    | none => exact .inl rfl
    | some g => exact .inr (fun e => hne g hv e.symm))

/-- a string's bytes as numbers -/
def bs (s : ByteArray) : List Int := s.data.toList.map fun c => (c.toNat : Int)
theorem bs_len (s : ByteArray) : (bs s).length = s.size := by simp [bs]
theorem bs_rng (s : ByteArray) : ∀ x ∈ bs s, 0 ≤ x ∧ x ≤ 255 := by
  intro x hx
  simp only [bs, List.mem_map] at hx
  obtain ⟨c, _, rfl⟩ := hx
  have := c.toNat_lt
  omega
theorem bs_str {E : List Int} (h : ∀ x ∈ E, 0 ≤ x ∧ x ≤ 255) : bs (strOfNums E) = E := by
  unfold bs
  rw [strOfNums_data, List.map_map]
  conv => rhs; rw [← List.map_id E]
  refine List.map_congr_left fun x hx => ?_
  have := h x hx
  simp
  omega
theorem str_bs (s : ByteArray) : strOfNums (bs s) = s := strOfNums_bytes s
theorem str_inj {E F : List Int} (hE : ∀ x ∈ E, 0 ≤ x ∧ x ≤ 255) (hF : ∀ x ∈ F, 0 ≤ x ∧ x ≤ 255) (h : strOfNums E = strOfNums F) : E = F := by
  rw [← bs_str hE, ← bs_str hF, h]
theorem bs_inj {s t : ByteArray} (h : bs s = bs t) : s = t := by rw [← str_bs s, ← str_bs t, h]
theorem bs_get (s : ByteArray) (k : Nat) (h : k < s.size) : (bs s)[k]? = some ((s[k]'h).toNat : Int) := by
  unfold bs
  rw [List.getElem?_map, List.getElem?_eq_getElem (by simpa using h)]
  rfl
theorem bs_drop (s : ByteArray) (k : Nat) (h : k < s.size) : (bs s).drop k = ((s[k]'h).toNat : Int) :: (bs s).drop (k + 1) := by
  have hl : k < (bs s).length := by rw [bs_len]; exact h
  rw [List.drop_eq_getElem_cons hl]
  congr 1
  have := bs_get s k h
  rw [List.getElem?_eq_getElem hl] at this
  exact Option.some.inj this
theorem bs_cells (s : ByteArray) : Lib.strCells s = (bs s).map (Value.int .u8) := by
  simp [Lib.strCells, bs]

end Go.Proofs.Ytojjdnfkcigdbaa
namespace Go.Proofs.Ytojjdnfkcigdbaa
open Go.RowKit

theorem infoInt : (Try.prog.info? 3).map (fun i => (i.zero, i.size, i.bytes)) = some (some (.int .i64 0), 1, 8) := by kernel_rfl
abbrev nilS : Value := .slice none 0 0
/-- the slice v reads as l; from its end to its capacity there are cells -/
def RI (w : World) (v : Value) (l : List Int) : Prop :=
  (v = nilS ∧ l = []) ∨ ∃ (g cap : Nat) (cur : Array Value), v = .slice (some ⟨g, 0, none⟩) l.length cap ∧ w.heap[g]? = some (.cells cur 3 (0, 0)) ∧ l.length ≤ cap ∧ cap ≤ cur.size ∧ cap ≤ maxLen ∧ cur.toList.take l.length = l.map (Value.int .i64)

section
variable {w w' : World} {v : Value} {l : List Int}
theorem RI.nil : RI w nilS [] := .inl ⟨rfl, rfl⟩
theorem RI.form (h : RI w v l) : ∃ A cap, v = .slice A l.length cap ∧ (A = none → cap = 0) ∧ l.length ≤ cap ∧ Rd w .i64 A l := by
  rcases h with ⟨rfl, rfl⟩ | ⟨g, cap, cur, rfl, hg, hn, hc, _, ht⟩
  · exact ⟨none, 0, rfl, fun _ => rfl, Nat.le_refl _, .inl rfl⟩
  · refine ⟨some ⟨g, 0, none⟩, cap, rfl, (fun e => by cases e), hn, .inr ⟨g, 0, rfl, (Array.getElem?_eq_some_iff.1 hg).1, fun i hi => ?_⟩⟩
    simp only [World.cell?, hg]
    have h1 : (cur.toList.take l.length)[i]? = some (.int .i64 (l[i]?.getD 0)) := by
      rw [ht, List.getElem?_map, List.getElem?_eq_getElem hi]; rfl
    rw [List.getElem?_take, if_pos hi, Array.getElem?_toList] at h1
    simpa using h1
theorem RI.ofBlock (h : RI w v l) (hb : ∀ g, v.ownBlock = some g → w'.heap[g]? = w.heap[g]?) : RI w' v l := by
  rcases h with h | ⟨g, cap, cur, rfl, hg, h2⟩
  · exact .inl h
  · exact .inr ⟨g, cap, cur, rfl, (hb g rfl).trans hg, h2⟩
theorem RI.keep (h : RI w v l) (hb : Below w.heap.size w w') : RI w' v l := by
  rcases h with h | ⟨g, cap, cur, rfl, hg, h2⟩
  · exact .inl h
  · exact .inr ⟨g, cap, cur, rfl, (hb.block g (Array.getElem?_eq_some_iff.1 hg).1).trans hg, h2⟩
theorem RI.lt (h : RI w v l) {g : Nat} (e : v.ownBlock = some g) : g < w.heap.size := by
  rcases h with ⟨rfl, _⟩ | ⟨g', cap, cur, rfl, hg, _⟩
  · cases e
  · cases e
    exact (Array.getElem?_eq_some_iff.1 hg).1
theorem RI.far (h : RI w v l) {row : Option Nat} (hg : w.grownBy w' row) (hne : ∀ g, v.ownBlock = some g → row ≠ some g) : RI w' v l :=
  h.ofBlock (fun g e => hg.block g (h.lt e) (fun h' => hne g e h'.symm))
theorem RI.own {base : Nat} (h : w.ownsRow base 3 1 v l.length (l.map (Value.int .i64))) : RI w v l := by
  rcases h.2 with ⟨rfl, hn⟩ | ⟨g, cap, cur, rfl, _, hg, hnc, hcm, hcs, ht⟩
  · exact .inl ⟨rfl, List.eq_nil_of_length_eq_zero hn⟩
  · exact .inr ⟨g, cap, cur, rfl, hg, hnc, by omega, hcm, by simpa using ht⟩
end

/-- there is room behind the slice's end -/
def SpI (v : Value) (l : List Int) : Prop := ∃ A cap, v = .slice A l.length cap ∧ l.length < cap
/-- the longer slice: the old one, or one in a new block -/
def AtI (B : Nat) (v : Value) (l m : List Int) (v' : Value) : Prop :=
  (∃ A cap, v = .slice A l.length cap ∧ v' = .slice A (l ++ m).length cap ∧ (l.length < cap ∨ m = [])) ∨ ∃ g, v'.ownBlock = some g ∧ B ≤ g
theorem AtI.own {B : Nat} {v v' : Value} {l m : List Int} (h : AtI B v l m v') : v'.ownBlock = v.ownBlock ∨ ∃ g, v'.ownBlock = some g ∧ B ≤ g := by
  rcases h with ⟨A, cap, rfl, rfl, _⟩ | h
  · left
    cases A <;> rfl
  · exact .inr h
theorem AtI.mono {B B' : Nat} {v v' : Value} {l m : List Int} (h : AtI B v l m v') (hB : B' ≤ B) : AtI B' v l m v' := by
  rcases h with h | ⟨g, h, hg⟩
  · exact .inl h
  · exact .inr ⟨g, h, Nat.le_trans hB hg⟩
/-- what an append leaves: the longer slice, in its old row or a new one; all that reads no further than the old slice -/
structure ApI (w : World) (v : Value) (l m : List Int) (v' : Value) (w' : World) : Prop where
  rd : RI w' v' (l ++ m)
  grown : w.grownBy w' v.ownBlock
  at_ : AtI w.heap.size v l m v'
  stay : ∀ t lt, RI w t lt → (t.ownBlock = v.ownBlock → SpI v l → lt.length ≤ l.length) → RI w' t lt

theorem run_append_ri {w : World} {v : Value} {l m : List Int} {B : Option Addr} {cb : Nat} (ty : TypeId) (hv : RI w v l) (hd : Rd w .i64 B m) (hB : B = none → cb = 0) (hb : l.length + m.length ≤ 100000000) :
    ∃ v' w', (Builtin.append_ #[30, 30] ty #[v, .slice B m.length cb]).run Try.prog w = .ok v' w' ∧ ApI w v l m v' w' := by
  obtain ⟨i0, hi, hz0, hz1, hz2⟩ := info_parts infoInt
  cases B with
  | none =>
    have hm : m = [] := by
      rcases hd with h | ⟨b, off, h, _⟩
      · exact h
      · cases h
    subst hm
    obtain rfl : cb = 0 := hB rfl
    refine ⟨v, w, ?_, ⟨by simpa using hv, ⟨rfl, rfl, rfl, Nat.le_refl _, fun _ _ _ => rfl⟩, ?_, fun _ _ h _ => h⟩⟩
    rotate_left
    · rcases hv with ⟨rfl, rfl⟩ | ⟨g, cap, cur, rfl, _⟩
      · exact .inl ⟨none, 0, rfl, rfl, .inr rfl⟩
      · exact .inl ⟨_, _, rfl, by simp, .inr rfl⟩
    rcases hv with ⟨rfl, rfl⟩ | ⟨g, cap, cur, rfl, hg, hn, _⟩
    · simp [nilS, Builtin.append_, run_underlying Try.underlying30, sizeOf, typeInfo, hi, Builtin.lenOf, Builtin.firstCells]
    · simp [Builtin.append_, run_underlying Try.underlying30, sizeOf, typeInfo, hi, Builtin.lenOf, Builtin.firstCells, hn, storeCells]
  | some ad =>
    rcases hv with ⟨rfl, rfl⟩ | ⟨g, cap, cur, rfl, hg, hn, hc, hcm, ht⟩
    · obtain ⟨v', w', hrun, h2, h3, _, h5⟩ := run_append_own_at (P := Try.prog) w w.heap.size 30 ty 3 i0 (.int .i64 0) 1 8 Try.underlying30 hi hz0 hz1 hz2 rfl (by decide) nilS 0 [] (World.ownsRow_nil w _ _ _) ad m.length cb (m.map (Value.int .i64)) (by simp) hd.add (ints_one m) (by unfold maxLen; simp at hb; omega) (by simp at hb; omega) (Nat.le_refl _)
      refine ⟨v', w', hrun, ⟨RI.own (base := w.heap.size) (by simpa using h2), h3, ?_, fun t lt h _ => h.far h3 (fun g _ e => by cases e)⟩⟩
      rcases h5 with h5 | h5
      · rcases h2.2 with ⟨rfl, hn0⟩ | ⟨g, cap, cur, rfl, _⟩
        · have : m = [] := List.eq_nil_of_length_eq_zero (by simpa using hn0)
          subst this
          exact .inl ⟨none, 0, rfl, rfl, .inr rfl⟩
        · cases h5
      · exact .inr ⟨_, h5, Nat.le_refl _⟩
    · by_cases hroom : l.length + m.length ≤ cap
      · have hr := run_append_room (P := Try.prog) w 30 ty 3 i0 Try.underlying30 hi g l.length cap cur hg ad m.length cb (m.map (Value.int .i64)) (by simp [hz1]) hd.add (ints_one m) hroom (by simp [hz1]; omega)
        rw [hz1] at hr
        simp only [Nat.mul_one, List.length_map] at hr
        have hheap := setRow_heap w g cur (cur.toList.take l.length ++ m.map (Value.int .i64) ++ cur.toList.drop (l.length + m.length)).toArray 3 (0, 0) hg
        refine ⟨_, _, hr, ⟨.inr ⟨g, cap, _, by simp, hheap, by simpa using hroom, ?_, hcm, ?_⟩, ⟨rfl, rfl, rfl, by simp, fun k _ hk => setRow_other w g k _ (fun e => hk (by simp [Value.ownBlock, e]))⟩, .inl ⟨_, cap, rfl, by simp, by
          rcases Nat.lt_or_ge l.length cap with h | h
          · exact .inl h
          · exact .inr (List.eq_nil_of_length_eq_zero (by omega))⟩, ?_⟩⟩
        · simp
          omega
        · rw [ht, ← List.map_append]
          have : (l ++ m).length = ((l ++ m).map (Value.int .i64)).length := by simp
          rw [this]
          exact List.take_left
        · intro t lt h hle
          rcases h with h | ⟨g2, cap2, cur2, rfl, hg2, h3, h4, h5, h6⟩
          · exact .inl h
          · by_cases e : g2 = g
            · subst e
              rw [hg] at hg2
              injection hg2 with hg2
              injection hg2 with hg2
              subst hg2
              rcases Nat.lt_or_ge l.length cap with hsp | hsp
              rotate_left
              · have hm0 : m = [] := List.eq_nil_of_length_eq_zero (by omega)
                subst hm0
                have hsame : (cur.toList.take l.length ++ ([] : List Int).map (Value.int .i64) ++ cur.toList.drop (l.length + ([] : List Int).length)).toArray = cur := by simp
                rw [hsame] at hheap
                exact .inr ⟨g2, cap2, cur, rfl, by rw [hsame]; exact hheap, h3, h4, h5, h6⟩
              have hl := hle rfl ⟨_, cap, rfl, hsp⟩
              refine .inr ⟨g2, cap2, _, rfl, hheap, h3, ?_, h5, ?_⟩
              · simp
                omega
              · rw [List.append_assoc, List.toList_toArray, List.take_append_of_le_length (by simp; omega), List.take_take, Nat.min_eq_left hl]
                exact h6
            · exact .inr ⟨g2, cap2, cur2, rfl, (setRow_other w g g2 _ e).trans hg2, h3, h4, h5, h6⟩
      · have holds : ∀ j u, (l.map (Value.int .i64))[j]? = some u → w.cell? ((⟨g, 0, none⟩ : Addr).add j) = some u := by
          obtain ⟨A, c, e, _, _, hrd⟩ := (show RI w (.slice (some ⟨g, 0, none⟩) l.length cap) l from .inr ⟨g, cap, cur, rfl, hg, hn, hc, hcm, ht⟩).form
          injection e with e1 e2 e3
          subst e1
          exact hrd.add
        have hsm : l.length + m.length ≤ maxLen := by unfold maxLen; omega
        have hr := run_append_grow (P := Try.prog) w 30 ty 3 i0 (.int .i64 0) Try.underlying30 hi hz0 ⟨g, 0, none⟩ l.length cap (l.map (Value.int .i64)) (by simp [hz1]) holds ad m.length cb (m.map (Value.int .i64)) (by simp [hz1]) hd.add (by omega) (by omega) (growslice_fits (by omega) (by rw [hz2]; omega))
        have hge := grownCap_ge w (l.length + m.length) cap 3
        refine ⟨_, _, hr, ⟨.inr ⟨w.heap.size, grownCap w (l.length + m.length) cap 3, _, by rw [List.length_append], heap_alloc_new w.drew _, by simpa using hge, ?_, grownCap_le_maxLen w _ _ _ hsm, ?_⟩, ⟨rfl, rfl, rfl, by simp, fun k hk _ => Below.heap_alloc w.drew _ k hk⟩, .inr ⟨_, rfl, Nat.le_refl _⟩, ?_⟩⟩
        · rw [Array.size_append, size_zeroCells, show (Value.int .i64 0).cells.size = 1 from rfl]
          simp
          omega
        · simp only [Array.toList_append, ← List.map_append]
          have : (l ++ m).length = ((l ++ m).map (Value.int .i64)).length := by simp
          rw [this]
          exact List.take_left
        · intro t lt h _
          exact h.ofBlock (fun k e => Below.heap_alloc w.drew _ k (h.lt e))

theorem wp_append_ri {w : World} {o : Oper} {a : Act} {K : Act → World → Prop} {Q : Exit → Act → World → Prop} (s x : Operand) (ho : o.op = .call { callee := .builtin .append, args := #[s, x], argTypes := #[30, 30] })
    (v : Value) (l m : List Int) (B : Option Addr) (n cb : Nat) (hn : n = m.length) (hs : a.eval s = v) (hx : a.eval x = .slice B n cb) (hv : RI w v l) (hd : Rd w .i64 B m) (hB : B = none → cb = 0) (hb : l.length + m.length ≤ 100000000)
    (h : ∀ v' w', ApI w v l m v' w' → K (a.put o.dst v') w') : o.wp Try.prog a w K Q := by
  subst hn
  obtain ⟨v', w', hrun, h2⟩ := run_append_ri o.type hv hd hB hb
  unfold Oper.wp execOp
  simp only [ho, resolve, invoke, builtin, Sem.run_bind, Sem.run_pure, Result.andThen_ok, List.map_toArray, List.map_cons, List.map_nil, hs, hx, hrun]
  exact h v' w' h2
theorem step_append_ri {w : World} {ops : Array Oper} {o : Oper} {a : Act} {K : Act → World → Prop} {Q : Exit → Act → World → Prop} {E : Prop} (hgd : o.guard = none) (s x : Operand) (ho : o.op = .call { callee := .builtin .append, args := #[s, x], argTypes := #[30, 30] })
    (v : Value) (l m : List Int) (B : Option Addr) (n cb : Nat) (hn : n = m.length) (hs : a.eval s = v) (hx : a.eval x = .slice B n cb) (hv : RI w v l) (hd : Rd w .i64 B m) (hB : B = none → cb = 0) (hb : l.length + m.length ≤ 100000000)
    (h : ∀ v' w', ApI w v l m v' w' → K (a.put o.dst v') w') : if Region.wanted o (yielded ops a.tmps) = true then Oper.wp Try.prog o a w K Q else E := by
  have hw : Region.wanted o (yielded ops a.tmps) = true := by simp [Region.wanted, hgd]
  rw [if_pos hw]
  exact wp_append_ri s x ho v l m B n cb hn hs hx hv hd hB hb h

theorem wpList_append_ri {w : World} {ops : Array Oper} {rest : List Oper} {o : Oper} {a : Act} {Q : Exit → Act → World → Prop} (hgd : o.guard = none) (s x : Operand) (ho : o.op = .call { callee := .builtin .append, args := #[s, x], argTypes := #[30, 30] })
    (v : Value) (l m : List Int) (B : Option Addr) (n cb : Nat) (hn : n = m.length) (hs : a.eval s = v) (hx : a.eval x = .slice B n cb) (hv : RI w v l) (hd : Rd w .i64 B m) (hB : B = none → cb = 0) (hb : l.length + m.length ≤ 100000000)
    (h : ∀ v' w', ApI w v l m v' w' → wpList Try.prog ops Q rest (a.put o.dst v') w') : wpList Try.prog ops Q (o :: rest) a w :=
  wpList_plain hgd fun _ hK => wp_append_ri s x ho v l m B n cb hn hs hx hv hd hB hb fun v' w' h1 => hK _ _ (h v' w' h1)
end Go.Proofs.Ytojjdnfkcigdbaa
namespace Go.Proofs.Ytojjdnfkcigdbaa
open Go.RowKit Go.Lib

/-- only blocks of S have turned -/
structure Frm (S : Nat → Prop) (W W' : World) : Prop where
  os : W'.os = W.os
  tape : W'.tape = W.tape
  output : W'.output = W.output
  size : W.heap.size ≤ W'.heap.size
  block : ∀ k, k < W.heap.size → ¬ S k → W'.heap[k]? = W.heap[k]?
theorem Frm.refl (S : Nat → Prop) (W : World) : Frm S W W := ⟨rfl, rfl, rfl, Nat.le_refl _, fun _ _ _ => rfl⟩
theorem Frm.trans {S : Nat → Prop} {A B C : World} (h1 : Frm S A B) (h2 : Frm S B C) : Frm S A C :=
  ⟨h2.os.trans h1.os, h2.tape.trans h1.tape, h2.output.trans h1.output, Nat.le_trans h1.size h2.size, fun k hk hn => (h2.block k (Nat.lt_of_lt_of_le hk h1.size) hn).trans (h1.block k hk hn)⟩
/-- the second may turn what is new for the first -/
theorem Frm.trans' {S S' : Nat → Prop} {A B C : World} (h1 : Frm S A B) (h2 : Frm S' B C) (hS : ∀ k, S' k → S k ∨ A.heap.size ≤ k) : Frm S A C :=
  ⟨h2.os.trans h1.os, h2.tape.trans h1.tape, h2.output.trans h1.output, Nat.le_trans h1.size h2.size, fun k hk hn => (h2.block k (Nat.lt_of_lt_of_le hk h1.size) (fun h => by rcases hS k h with h | h; exact hn h; omega)).trans (h1.block k hk hn)⟩
theorem Frm.mono {S S' : Nat → Prop} {A B : World} (h : Frm S A B) (hS : ∀ k, S k → S' k) : Frm S' A B := ⟨h.os, h.tape, h.output, h.size, fun k hk hn => h.block k hk (fun hs => hn (hS k hs))⟩
theorem Frm.grown {S : Nat → Prop} {A B : World} {row : Option Nat} (h : A.grownBy B row) (hS : ∀ k, row = some k → S k) : Frm S A B :=
  ⟨h.os, h.tape, h.output, h.size, fun k hk hn => h.block k hk (fun e => hn (hS k e.symm))⟩
theorem Frm.below {S : Nat → Prop} {A B : World} (h : Below A.heap.size A B) : Frm S A B := ⟨h.os, h.tape, h.output, h.size, fun k hk _ => h.block k hk⟩
theorem Frm.alloc (S : Nat → Prop) (A : World) (o : Obj) : Frm S A (A.alloc o) := Frm.grown (World.grownBy_alloc A o none) (fun k e => by cases e)
theorem Frm.drewN (S : Nat → Prop) (A : World) (q : Nat) : Frm S A (A.drewN q) := ⟨rfl, rfl, rfl, Nat.le_refl _, fun _ _ _ => rfl⟩
theorem grown_setCellT (W : World) (p : Addr) (v : Value) : W.grownBy (W.setCell p v) (some p.block) :=
  ⟨rfl, rfl, rfl, by simp [World.setCell], fun k _ hk => Below.heap_setCell W p v k (fun e => hk (by rw [e]))⟩
theorem Frm.set {S : Nat → Prop} {A : World} {p : Addr} (v : Value) (hp : S p.block) : Frm S A (A.setCell p v) :=
  Frm.grown (grown_setCellT A p v) (fun k e => by cases e; exact hp)
theorem Frm.toBelow {S : Nat → Prop} {A B : World} {n : Nat} (h : Frm S A B) (hn : n ≤ A.heap.size) (hS : ∀ k, S k → n ≤ k) : Below n A B :=
  ⟨h.os, h.tape, h.output, h.size, fun k hk => h.block k (by omega) (fun hs => by have := hS k hs; omega)⟩
theorem Frm.own {S : Nat → Prop} {A B : World} {base sz n : Nat} {e : TypeId} {v : Value} {xs : List Value} (h : Frm S A B) (ho : A.ownsRow base e sz v n xs) (hv : ∀ k, v.ownBlock = some k → ¬ S k) : B.ownsRow base e sz v n xs := by
  refine ⟨ho.1, ?_⟩
  rcases ho.2 with hn | ⟨g, cap, cur, rfl, hb, hgg, rest⟩
  · exact .inl hn
  · exact .inr ⟨g, cap, cur, rfl, hb, (h.block g (Array.getElem?_eq_some_iff.1 hgg).1 (hv g rfl)).trans hgg, rest⟩
theorem Frm.cell {S : Nat → Prop} {A B : World} (h : Frm S A B) {p : Addr} (hp : p.block < A.heap.size) (hn : ¬ S p.block) : B.cell? p = A.cell? p := World.cell?_of_block (a := p) (h.block p.block hp hn)
end Go.Proofs.Ytojjdnfkcigdbaa
namespace Go.Proofs.Ytojjdnfkcigdbaa
open Go.RowKit Go.Shelf Go.Lib

/-- an append onto a row of its own, in a region that draws its order -/
theorem step_append_rdL {w : World} {ops : Array Oper} {o : Oper} {a : Act} {K : Act → World → Prop} {Q : Exit → Act → World → Prop} {E : Prop} (hw : Region.wanted o (yielded ops a.tmps) = true) (s x : Operand) (ho : o.op = .call { callee := .builtin .append, args := #[s, x], argTypes := #[30, 30] })
    (base : Nat) (v : Value) (n : Nat) (xs : List Int) (hs : a.eval s = v) (hown : w.ownsRow base 3 1 v n (xs.map (Value.int .i64))) (A : Option Addr) (m c : Nat) (hx : a.eval x = .slice A m c) (news : List Int) (hm : news.length = m) (hrd : Rd w .i64 A news) (hnone : A = none → c = 0)
    (hn : n + m ≤ 100000000) (hbase : base ≤ w.heap.size)
    (h : ∀ v' w', w'.ownsRow base 3 1 v' (n + m) ((xs ++ news).map (Value.int .i64)) → w.grownBy w' v.ownBlock → K (a.put o.dst v') w') : if Region.wanted o (yielded ops a.tmps) = true then Oper.wp Try.prog o a w K Q else E := by
  obtain ⟨i0, hi, hz0, hz1, hz2⟩ := info_parts infoInt
  rw [if_pos hw]
  cases A with
  | none =>
    obtain rfl : news = [] := by
      rcases hrd with h | ⟨b, off, h, _⟩
      · exact h
      · cases h
    obtain rfl : m = 0 := by simpa using hm.symm
    obtain rfl : c = 0 := hnone rfl
    have hrun := run_append_owned_none (P := Try.prog) (w := w) base 30 o.type 3 i0 1 Try.underlying30 hi v n _ hown
    unfold Oper.wp execOp
    simp only [ho, resolve, invoke, builtin, Sem.run_bind, Sem.run_pure, Result.andThen_ok, List.map_toArray, List.map_cons, List.map_nil, hs, hx, hrun]
    exact h v w (by simpa using hown) ⟨rfl, rfl, rfl, Nat.le_refl _, fun _ _ _ => rfl⟩
  | some ad =>
    obtain ⟨v', w', hrun, h2, h3, _, _⟩ := run_append_own_at (P := Try.prog) w base 30 o.type 3 i0 _ 1 8 Try.underlying30 hi hz0 hz1 hz2 rfl (by decide) v n _ hown ad m c (news.map (Value.int .i64)) (by simp [hm]) hrd.add (ints_one news) (by unfold maxLen; omega) (by omega) hbase
    unfold Oper.wp execOp
    simp only [ho, resolve, invoke, builtin, Sem.run_bind, Sem.run_pure, Result.andThen_ok, List.map_toArray, List.map_cons, List.map_nil, hs, hx, hrun]
    exact h v' w' (by rw [List.map_append]; exact h2) h3
theorem rd_takeL {w : World} {b o k : Nat} {xs : List Int} (h : Rd w .i64 (some ⟨b, o, none⟩) xs) : Rd w .i64 (some ⟨b, o, none⟩) (xs.take k) := by
  rcases h with rfl | ⟨b', o', hA, hb, hc⟩
  · exact .inl (by simp)
  · refine .inr ⟨b', o', hA, hb, fun i hi => ?_⟩
    rw [List.length_take] at hi
    rw [hc i (by omega), List.getElem?_take, if_pos (by omega)]
theorem rd_dropL {w : World} {b o k : Nat} {xs : List Int} (h : Rd w .i64 (some ⟨b, o, none⟩) xs) : Rd w .i64 (some ⟨b, o + k, none⟩) (xs.drop k) := by
  rcases h with rfl | ⟨b', o', hA, hb, hc⟩
  · exact .inl (by simp)
  · injection hA with hA
    injection hA with h1 h2
    subst h1 h2
    by_cases hk : xs.length ≤ k
    · exact .inl (List.drop_eq_nil_of_le hk)
    · refine .inr ⟨b, o + k, rfl, hb, fun i hi => ?_⟩
      rw [List.length_drop] at hi
      rw [Nat.add_assoc, hc (k + i) (by omega), List.getElem?_drop]
theorem rd_take0 {w : World} {A : Option Addr} {k : Nat} {xs : List Int} (h : Rd w .i64 A xs) : Rd w .i64 A (xs.take k) := by
  cases A with
  | none =>
    rcases h with rfl | ⟨b, o, hA, _⟩
    · exact .inl (by simp)
    · cases hA
  | some ad =>
    obtain ⟨b, o, e⟩ := ad
    rcases h with rfl | ⟨b', o', hA, h⟩
    · exact .inl (by simp)
    · injection hA with hA
      injection hA with h1 h2 h3
      subst h1 h2 h3
      exact rd_takeL (.inr ⟨_, _, rfl, h⟩)
end Go.Proofs.Ytojjdnfkcigdbaa
namespace Go.Proofs.Ytojjdnfkcigdbaa
open Go.RowKit Go.Shelf Go.Lib
attribute [local go_sem] Oper.semAt_some

theorem idxOf_at (xs : List Int) (n : Int) (k : Nat) (hk : xs[k]? = some n) (hne : ∀ j : Nat, j < k → xs[j]? ≠ some n) : Lib.idxOf xs n = k := by
  have hl := (List.getElem?_eq_some_iff.1 hk).1
  have := Lib.idxOf_hit xs xs.length k n hl (Nat.le_refl _) (by simp [List.getD, hk]) (fun j hj e => by
    have hjl : j < xs.length := by omega
    rw [List.getD_eq_getElem?_getD, List.getElem?_eq_getElem hjl] at e
    exact hne j hj (by rw [List.getElem?_eq_getElem hjl]; exact congrArg some e))
  rw [List.take_length] at this
  exact this
theorem idxOf_no (xs : List Int) (n : Int) (hne : ∀ j : Nat, j < xs.length → xs[j]? ≠ some n) : Lib.idxOf xs n = -1 := by
  have := Lib.idxOf_miss xs xs.length n (fun j hj e => by
    rw [List.getD_eq_getElem?_getD, List.getElem?_eq_getElem hj] at e
    exact hne j hj (by rw [List.getElem?_eq_getElem hj]; exact congrArg some e))
  rw [List.take_length] at this
  exact this
theorem at_any (xs : List Int) (n : Int) (A : Option Addr) (cap : Nat) (W : World) (h : Rd W .i64 A xs) (hl : xs.length ≤ 1000000) :
    Calls Try.prog 40 #[.slice A xs.length cap, .int .i64 n] W fun e W' => e = .returned (.int .i64 (Lib.idxOf xs n)) ∧ W' = W := by
  have H := Lib.hid h
  clear h
  go_enter Try.func40, Try.ntmps40
  go_wp2
  go_loop [9] (fun kv => ∃ k : Nat, k ≤ xs.length ∧ kv = .int .i64 k ∧ Hid (∀ j : Nat, j < k → xs[j]? ≠ some n)) (fun kv => xs.length - (RowKit.intOf kv).toNat)
  case atStart => exact ⟨0, Nat.zero_le _, rfl, Lib.hid (fun j hj => absurd hj (Nat.not_lt_zero _))⟩
  case round =>
    obtain ⟨k, hk, rfl, HN⟩ := hrel
    by_cases hlt : k < xs.length
    · obtain ⟨x, hx⟩ : ∃ x, xs[k]? = some x := ⟨_, List.getElem?_eq_getElem hlt⟩
      obtain ⟨b, off, rfl, hb, hc⟩ := H.out.pos (by omega)
      have c0 : W.cell? ⟨b, off + k, none⟩ = some (.int .i64 x) := by rw [hc k hlt, hx]; rfl
      have dk : decide ((k : Int) < (xs.length : Int)) = true := decide_eq_true (by omega)
      have HX := Lib.hid hx
      clear hx hc
      by_cases hxn : x = n
      · have tx : (x == n) = true := by rw [beq_iff_eq]; exact hxn
        have HV := Lib.hid (idxOf_at xs n k (by rw [HX.out, hxn]) HN.out)
        clear hxn
        go_wp2
        go_ret
        exact ⟨by rw [HV.out]; rfl, rfl⟩
      · have tx : (x == n) = false := by rw [beq_eq_false_iff_ne]; exact hxn
        have HN2 : Hid (∀ j : Nat, j < k + 1 → xs[j]? ≠ some n) := Lib.hid (fun j hj => by
          by_cases e : j = k
          · subst e
            rw [HX.out]
            exact fun h => hxn (Option.some.inj h)
          · exact HN.out j (by omega))
        clear hxn
        go_wp2
        go_round
        case rel => exact ⟨k + 1, by omega, by go_num, HN2⟩
        case measure => simp [RowKit.intOf]; omega
    · obtain rfl : k = xs.length := by omega
      have dk : decide ((xs.length : Int) < (xs.length : Int)) = false := decide_eq_false (by omega)
      have HV := Lib.hid (idxOf_no xs n HN.out)
      go_wp2
      go_ret
      exact ⟨by rw [HV.out]; rfl, rfl⟩
/-- a list without the one at a place -/
theorem cut_any (xs : List Int) (k : Nat) (A : Option Addr) (co : Nat) (w : World) (h : Rd w .i64 A xs) (hk : k < xs.length) (hlx : xs.length ≤ 1000000) (hlc : xs.length ≤ co) (hcm : co ≤ maxLen) :
    Calls Try.prog 80 #[.slice A xs.length co, .int .i64 k] w fun e w' => ∃ v, e = .returned v ∧ w'.ownsRow w.heap.size 3 1 v (xs.eraseIdx k).length ((xs.eraseIdx k).map (Value.int .i64)) ∧ Below w.heap.size w w' := by
  obtain ⟨bq, oq, rfl, hbq, _⟩ := h.pos (by omega)
  have HVAL := Lib.hid (show xs.eraseIdx k = xs.take k ++ xs.drop (k + 1) from List.eraseIdx_eq_take_drop_succ ..)
  have HRA := Lib.hid (rd_takeL (k := k) h)
  have HRB := Lib.hid (rd_dropL (k := k + 1) h)
  unfold maxLen at hcm
  have hkc : (k : Int) ≤ (co : Int) := by omega
  have hkc2 : k ≤ co := by omega
  have hkn : (k : Int) + 1 ≤ (xs.length : Int) := by omega
  have hkn2 : k + 1 ≤ xs.length := by omega
  have nk : (0 : Int) ≤ (k : Int) + 1 := by omega
  have tk : ((k : Int) + 1).toNat = k + 1 := by omega
  have wk : IntKind.i64.wrap ((k : Int) + 1) = (k : Int) + 1 := by rw [IntKind.wrap_i64]; omega
  have HL1 := Lib.hid (show (xs.take k).length = k by simp; omega)
  have HL22 := Lib.hid (show (xs.drop (k + 1)).length = xs.length - (k + 1) by simp)
  have HBA : Hid (Below w.heap.size w (w.drew.alloc (.cells #[] 3))) := Lib.hid ((Below.refl _ w).drew.alloc (Nat.le_refl _) _)
  have HC1 : Hid (xs.length ≤ co) := Lib.hid hlc
  clear h hlc
  by_cases hcap : co = k + 1
  · have HNIL := Lib.hid (show xs.drop (k + 1) = [] from List.drop_eq_nil_of_le (by have := HC1.out; omega))
    have hcl : xs.length ≤ k + 1 := by have := HC1.out; omega
    subst hcap
    clear hkc
    have hkc : (k : Int) ≤ (k : Int) + 1 := by omega
    go_enter Try.func80, Try.ntmps80
    go_wp2_with fail
    go_region_law (first
      | (refine step_append_rdL (by rfl) _ _ (by rfl) w.heap.size (.slice (some ⟨w.heap.size, 0, none⟩) 0 0) 0 [] rfl (World.ownsRow_lit w.drew #[] 0 (Nat.le_refl _) (by decide) rfl) (some ⟨bq, oq, none⟩) k (k + 1) rfl (xs.take k) HL1.out (HRA.out.below HBA.out) (fun e => by cases e) (by omega) HBA.out.size ?_; intro v5 w5 hown5 hg5; have hb5 : Below w.heap.size w w5 := HBA.out.grown hg5 HBA.out.size (fun j e => (by cases e; exact Nat.le_refl _)); rw [List.nil_append, Nat.zero_add] at hown5; clear hg5)
      | (refine step_append_rdL (by rfl) _ _ (by rfl) w.heap.size v5 k (xs.take k) rfl hown5 (some ⟨bq, oq, none⟩) 0 0 rfl [] rfl (.inl rfl) (fun e => by cases e) (by omega) hb5.size ?_; intro v6 w6 hown6 hg6; have hb6 : Below w.heap.size w w6 := hb5.grown hg6 hb5.size (fun j e => (hown5.lt j e).1)))
    all_goals
      rw [← HNIL.out] at hown6
      have hlen : (xs.eraseIdx k).length = k + 0 := by rw [HVAL.out, List.length_append, HL1.out, HNIL.out]; rfl
      have HO : Hid (w6.ownsRow w.heap.size 3 1 v6 (xs.eraseIdx k).length ((xs.eraseIdx k).map (Value.int .i64))) := Lib.hid (by rw [hlen, HVAL.out]; exact hown6)
      go_wp2
      go_ret
      exact ⟨v6, rfl, HO.out, hb6⟩
  · go_enter Try.func80, Try.ntmps80
    go_wp2_with fail
    go_region_law (first
      | (refine step_append_rdL (by rfl) _ _ (by rfl) w.heap.size (.slice (some ⟨w.heap.size, 0, none⟩) 0 0) 0 [] rfl (World.ownsRow_lit w.drew #[] 0 (Nat.le_refl _) (by decide) rfl) (some ⟨bq, oq, none⟩) k co rfl (xs.take k) HL1.out (HRA.out.below HBA.out) (fun e => by cases e) (by omega) HBA.out.size ?_; intro v5 w5 hown5 hg5; have hb5 : Below w.heap.size w w5 := HBA.out.grown hg5 HBA.out.size (fun j e => (by cases e; exact Nat.le_refl _)); rw [List.nil_append, Nat.zero_add] at hown5; clear hg5)
      | (refine step_append_rdL (by rfl) _ _ (by rfl) w.heap.size v5 k (xs.take k) rfl hown5 (some ⟨bq, oq + (k + 1), none⟩) (xs.length - (k + 1)) (co - (k + 1)) rfl (xs.drop (k + 1)) HL22.out (HRB.out.below hb5) (fun e => by cases e) (by omega) hb5.size ?_; intro v6 w6 hown6 hg6; have hb6 : Below w.heap.size w w6 := hb5.grown hg6 hb5.size (fun j e => (hown5.lt j e).1)))
    all_goals
      have hlen : (xs.eraseIdx k).length = k + (xs.length - (k + 1)) := by rw [HVAL.out, List.length_append, HL1.out, HL22.out]
      have HO : Hid (w6.ownsRow w.heap.size 3 1 v6 (xs.eraseIdx k).length ((xs.eraseIdx k).map (Value.int .i64))) := Lib.hid (by rw [hlen, HVAL.out]; exact hown6)
      go_wp2
      go_ret
      exact ⟨v6, rfl, HO.out, hb6⟩
end Go.Proofs.Ytojjdnfkcigdbaa
