/- Slices of integers in memory, nil let in. Rows of bytes: slices that come in, rows of the call's own, strings of them. Maps of names to slices of bytes, as functions. Slices of bytes whose rows may be shared, and append onto them. What turns and what stays; the contract of a volume's write. Contracts of a volume's has, write, move, drop. Contracts of a volume's move and drop. -/
import Derived.WalkKit
import Derived.Below
import Derived.Deep.Draws
import Derived.Test.YtbdmlenapccdnaaProg
import Derived.Lib.Hide
import Derived.Lib.AppendStr
import Derived.Laws.AppendOwn
import Derived.Laws.AppendOwnNone
import Derived.Laws.BytesArg
import Derived.Laws.IdiomStrings
import Derived.Laws.BitsAllLaws
import Derived.OwnWalk
import Derived.Shelf.Spec.RuneCount
import Derived.Maps.OwnSet
import Derived.Maps.RangeWalk
import Derived.Maps.AppendAt
import Derived.Laws.Append
import Derived.RegionTactic
import Derived.Deep.RegionHeld3
import Derived.Laws.Pointers
import Derived.Deep.QuietTactic
import Derived.BigQuiet
import Derived.Deep.DeepCutAuto
import Derived.StillTailTactics
namespace Go.Proofs.Ytbdmlenapccdnaa
open Go.RowKit

/-- the slice at A holds xs -/
def Rd (w : World) (k : IntKind) (A : Option Addr) (xs : List Int) : Prop :=
  xs = [] ∨ ∃ b off, A = some ⟨b, off, none⟩ ∧ b < w.heap.size ∧ ∀ i, i < xs.length → w.cell? ⟨b, off + i, none⟩ = some (.int k (xs[i]?.getD 0))

theorem Rd.keep {w w' : World} {k : IntKind} {A : Option Addr} {xs : List Int} (h : Rd w k A xs) (hs : w.heap.size ≤ w'.heap.size) (hc : ∀ p : Addr, p.block < w.heap.size → w'.cell? p = w.cell? p) : Rd w' k A xs := by
  rcases h with h | ⟨b, off, rfl, hb, h⟩
  · exact .inl h
  · exact .inr ⟨b, off, rfl, by omega, fun i hi => (hc _ hb).trans (h i hi)⟩
theorem Rd.below {w w' : World} {k : IntKind} {A : Option Addr} {xs : List Int} (h : Rd w k A xs) (hb : Below w.heap.size w w') : Rd w' k A xs :=
  h.keep hb.size fun _ hp => hb.cell hp
theorem Rd.pos {w : World} {k : IntKind} {A : Option Addr} {xs : List Int} (h : Rd w k A xs) (hx : 0 < xs.length) :
    ∃ b off, A = some ⟨b, off, none⟩ ∧ b < w.heap.size ∧ ∀ i, i < xs.length → w.cell? ⟨b, off + i, none⟩ = some (.int k (xs[i]?.getD 0)) := by
  rcases h with rfl | h
  · simp at hx
  · exact h
theorem below_drewN {B : Nat} {a w : World} (h : Below B a w) (n : Nat) : Below B a (w.drewN n) := ⟨h.os, h.tape, h.output, h.size, h.block⟩
theorem bcell {W w1 : World} (hb : Below W.heap.size W w1) : (∀ b o, b < W.heap.size → w1.cell? ⟨b, o, none⟩ = W.cell? ⟨b, o, none⟩) ∧ (∀ b o, b < W.heap.size → w1.frozen? ⟨b, o, none⟩ = W.frozen? ⟨b, o, none⟩) :=
  ⟨fun b o h => hb.cell (p := ⟨b, o, none⟩) h, fun b o h => hb.frozen (p := ⟨b, o, none⟩) h⟩
theorem Below.up {B B' : Nat} {w w' : World} (h : Below B' w w') (hB : B ≤ B') : Below B w w' := h.mono hB

/-- what a call gives that answers a slice: it reads as xs, and what lay there lies as it lay -/
def Gives (k : IntKind) (xs : List Int) (w : World) (e : Ending) (w' : World) : Prop :=
  ∃ A cap, e = .returned (.slice A xs.length cap) ∧ Rd w' k A xs ∧ xs.length ≤ cap ∧ (A = none → cap = 0) ∧ Below w.heap.size w w'

end Go.Proofs.Ytbdmlenapccdnaa
namespace Go.Proofs.Ytbdmlenapccdnaa
open Go.RowKit

theorem infoU8 : (Try.prog.info? 5).map (fun i => (i.zero, i.size, i.bytes)) = some (some (.int .u8 0), 1, 1) := by kernel_rfl

theorem cells_new (w : World) (l : List Value) (t : TypeId) : ∀ j u, l[j]? = some u → (w.alloc (.cells l.toArray t)).cell? ((⟨w.heap.size, 0, none⟩ : Addr).add j) = some u := by
  intro j u hu
  have : (⟨w.heap.size, 0, none⟩ : Addr).add j = ⟨w.heap.size, j, none⟩ := by unfold Addr.add; split <;> simp_all
  rw [this, World.cell?_alloc_new]
  simpa using hu
theorem ints_one {k : IntKind} (l : List Int) : ∀ u ∈ l.map (Value.int k), u.oneCell' = true := by
  intro u hu
  simp at hu
  obtain ⟨z, _, rfl⟩ := hu
  rfl
theorem Rd.add {w : World} {k : IntKind} {ad : Addr} {xs : List Int} (h : Rd w k (some ad) xs) : ∀ j u, (xs.map (Value.int k))[j]? = some u → w.cell? (ad.add j) = some u := by
  intro j u hu
  rcases h with rfl | ⟨b, off, hA, hb, hc⟩
  · simp at hu
  · obtain rfl : ad = ⟨b, off, none⟩ := by injection hA
    have hj : j < xs.length := by
      rcases Nat.lt_or_ge j xs.length with hlt | hge
      · exact hlt
      · rw [List.getElem?_eq_none (by simpa using hge)] at hu; cases hu
    rw [List.getElem?_map, List.getElem?_eq_getElem hj] at hu
    have h2 := hc j hj
    rw [List.getElem?_eq_getElem hj, Option.getD_some] at h2
    simp only [Option.map_some, Option.some.injEq] at hu
    rw [← hu, ← h2]
    rcases Nat.eq_zero_or_pos j with rfl | hj0
    · simp [Addr.add]
    · simp [Addr.add, Nat.ne_of_gt hj0]
theorem Rd.own {w : World} {k : IntKind} {base : Nat} {e : TypeId} {v : Value} {n : Nat} {xs : List Int} (h : w.ownsRow base e 1 v n (xs.map (Value.int k))) : ∃ A cap, v = .slice A xs.length cap ∧ xs.length = n ∧ n ≤ cap ∧ (A = none → cap = 0) ∧ Rd w k A xs := by
  have hl : xs.length = n := by have := h.1; simpa using this
  subst hl
  have hh := h
  rcases h.2 with ⟨rfl, hn⟩ | ⟨g, cap, cur, rfl, _, hg, hnc, _⟩
  · have hx : xs = [] := List.eq_nil_of_length_eq_zero hn
    subst hx
    exact ⟨none, 0, rfl, rfl, by simp, fun _ => rfl, .inl rfl⟩
  · refine ⟨some ⟨g, 0, none⟩, cap, rfl, rfl, hnc, (fun h => by cases h), .inr ⟨g, 0, rfl, (Array.getElem?_eq_some_iff.1 hg).1, fun i hi => ?_⟩⟩
    rw [Nat.zero_add, hh.cellAt i (by omega), List.getElem?_map, List.getElem?_eq_getElem hi]
    simp
theorem str_own {P : Program} {t e u : TypeId} (ht : P.underlying t = some (.slice e)) (he : P.underlying e = some (.int .u8)) (hu : P.underlying u = some .string) {w : World} {base n : Nat} {v : Value} {E : List Int} (h : w.ownsRow base e 1 v n (E.map (Value.int .u8))) :
    (convert t u v).run P w = .ok (.string (strOfNums E)) w := by
  obtain ⟨A, cap, rfl, hl, _, _, hrd⟩ := Rd.own h
  subst hl
  cases A with
  | none =>
    have hE : E = [] := by
      rcases hrd with h | ⟨b, off, h, _⟩
      · exact h
      · cases h
    subst hE
    exact run_convert_bytes_nil w t e ht he 0 cap u hu
  | some ad =>
    rcases hrd with hE | ⟨b, off, hA, _, hc⟩
    · subst hE
      rcases h.2 with ⟨h', _⟩ | ⟨g, cap', cur, h', _⟩
      · cases h'
      · injection h' with h1 h2 h3
        cases h1
        exact run_convert_bytes_arg w t e ht he g 0 0 cap [] rfl (fun i hi => by omega) u hu
    · injection hA with hA
      subst hA
      exact run_convert_bytes_arg w t e ht he b off E.length cap E rfl (fun i hi => by rw [hc i hi]; simp) u hu
/-- append of a slice that may be nil onto an owned row -/
theorem wpList_append_rd {P : Program} {w : World} {ops : Array Oper} {rest : List Oper} {o : Oper} {a : Act} {Q : Exit → Act → World → Prop} {s x : Operand} (hgd : o.guard = none) (t : TypeId)
    (ho : o.op = .call { callee := .builtin .append, args := #[s, x], argTypes := #[t, t] })
    (base : Nat) (e : TypeId) (i : TypeInfo) (z : Value) (bytes : Nat) (ht : P.underlying t = some (.slice e)) (hi : P.info? e = some i) (hz : i.zero = some z) (hsize : i.size = 1) (hby : i.bytes = bytes)
    (v : Value) (n : Nat) (xs : List Value) (hs : a.eval s = v) (hown : w.ownsRow base e 1 v n xs)
    (A : Option Addr) (m c : Nat) (hx : a.eval x = .slice A m c) (news : List Int) (k : IntKind) (hm : news.length = m) (hrd : Rd w k A news) (hnone : A = none → c = 0) (hzs : z.cells.size = 1)
    (h63 : n + m ≤ maxLen) (hbytes : (n + m) * bytes ≤ 140737488355328) (hbase : base ≤ w.heap.size)
    (h : ∀ v' w', w'.ownsRow base e 1 v' (n + m) (xs ++ news.map (Value.int k)) → w.grownBy w' v.ownBlock → wpList P ops Q rest (a.put o.dst v') w') : wpList P ops Q (o :: rest) a w := by
  cases A with
  | none =>
    have hn : news = [] := by
      rcases hrd with h | ⟨b, off, h, _⟩
      · exact h
      · cases h
    subst hn
    obtain rfl : m = 0 := by simpa using hm.symm
    obtain rfl : c = 0 := hnone rfl
    exact wpList_append_own_none hgd s x t ho base e i 1 ht hi v n xs hs hown hx (h v w (by simpa using hown) ⟨rfl, rfl, rfl, Nat.le_refl _, fun _ _ _ => rfl⟩)
  | some ad =>
    exact wpList_append_own w hgd s x t ho base e i z 1 bytes ht hi hz hsize hby hzs (by decide) v n xs hs hown ad m c (news.map (Value.int k)) hx (by simp [hm]) hrd.add (ints_one news) h63 hbytes hbase (fun v' w' h1 h2 _ => h v' w' h1 h2)

theorem own_keep {w w' : World} {base sz n : Nat} {e : TypeId} {v : Value} {xs : List Value} (h : w.ownsRow base e sz v n xs) (hb : Below w.heap.size w w') : w'.ownsRow base e sz v n xs :=
  h.kept (row := none) ⟨hb.os, hb.tape, hb.output, hb.size, fun k hk _ => hb.block k hk⟩ (by cases v.ownBlock <;> simp)
theorem own_far {w w' : World} {base sz n : Nat} {e : TypeId} {v : Value} {xs : List Value} {row : Option Nat} (h : w.ownsRow base e sz v n xs) (hg : w.grownBy w' row) (hne : ∀ g, v.ownBlock = some g → row = some g → False) : w'.ownsRow base e sz v n xs :=
  h.kept hg (by
    cases hv : v.ownBlock with
    | none => exact .inl rfl
    | some g => exact .inr (fun e => hne g hv e.symm))

/-- a string's bytes as numbers -/
def bs (s : ByteArray) : List Int := s.data.toList.map fun c => (c.toNat : Int)
theorem bs_len (s : ByteArray) : (bs s).length = s.size := by simp [bs]
theorem bs_rng (s : ByteArray) : ∀ x ∈ bs s, 0 ≤ x ∧ x ≤ 255 := by
  intro x hx
  simp only [bs, List.mem_map] at hx
  obtain ⟨c, _, rfl⟩ := hx
  have := c.toNat_lt
  omega
theorem bs_str {E : List Int} (h : ∀ x ∈ E, 0 ≤ x ∧ x ≤ 255) : bs (strOfNums E) = E := by
  unfold bs
  rw [strOfNums_data, List.map_map]
  conv => rhs; rw [← List.map_id E]
  refine List.map_congr_left fun x hx => ?_
  have := h x hx
  simp
  omega
theorem str_bs (s : ByteArray) : strOfNums (bs s) = s := strOfNums_bytes s
theorem str_inj {E F : List Int} (hE : ∀ x ∈ E, 0 ≤ x ∧ x ≤ 255) (hF : ∀ x ∈ F, 0 ≤ x ∧ x ≤ 255) (h : strOfNums E = strOfNums F) : E = F := by
  rw [← bs_str hE, ← bs_str hF, h]
theorem bs_inj {s t : ByteArray} (h : bs s = bs t) : s = t := by rw [← str_bs s, ← str_bs t, h]
theorem bs_get (s : ByteArray) (k : Nat) (h : k < s.size) : (bs s)[k]? = some ((s[k]'h).toNat : Int) := by
  unfold bs
  rw [List.getElem?_map, List.getElem?_eq_getElem (by simpa using h)]
  rfl
theorem bs_drop (s : ByteArray) (k : Nat) (h : k < s.size) : (bs s).drop k = ((s[k]'h).toNat : Int) :: (bs s).drop (k + 1) := by
  have hl : k < (bs s).length := by rw [bs_len]; exact h
  rw [List.drop_eq_getElem_cons hl]
  congr 1
  have := bs_get s k h
  rw [List.getElem?_eq_getElem hl] at this
  exact Option.some.inj this
theorem bs_cells (s : ByteArray) : Lib.strCells s = (bs s).map (Value.int .u8) := by
  simp [Lib.strCells, bs]

end Go.Proofs.Ytbdmlenapccdnaa
namespace Go.Proofs.Ytbdmlenapccdnaa
open Go.RowKit Go.Maps Go.WideMaps

/-- a slice as a datum -/
def sd : Value → DataW Unit
  | .slice none n c => .agg [.nil, .lit (.int .i64 n), .lit (.int .i64 c)]
  | .slice (some ⟨b, o, none⟩) n c => .agg [.lit (.int .i64 b), .lit (.int .i64 o), .lit (.int .i64 n), .lit (.int .i64 c)]
  | _ => .nil
def isS : Value → Bool
  | .slice none _ _ => true
  | .slice (some ⟨_, _, none⟩) _ _ => true
  | _ => false
def sv (v : Value) : Option (DataW Unit × List MemPlace) := if isS v = true then some (sd v, []) else none
def nilS : Value := .slice none 0 0
theorem sd_inj {v v' : Value} (h : isS v = true) (h' : isS v' = true) (e : sd v = sd v') : v = v' := by
  unfold isS at h h'
  split at h <;> split at h' <;> simp_all [sd]
  all_goals omega
theorem sv_mk {v : Value} (h : isS v = true) : sv v = some (sd v, []) := by unfold sv; rw [if_pos h]
theorem sv_inv {v : Value} {d : DataW Unit} {ps : List MemPlace} (h : sv v = some (d, ps)) : isS v = true ∧ d = sd v := by
  unfold sv at h
  split at h
  · rename_i hv
    simp at h
    exact ⟨hv, h.1.symm⟩
  · cases h

/-- a key -/
def ky (s : ByteArray) : Lit := .string s.data.toList
theorem ky_inj {s t : ByteArray} (h : ky s = ky t) : s = t := by
  unfold ky at h
  injection h with h
  exact ByteArray.ext (Array.toList_inj.1 h)
theorem K : Keyed Try.prog 9 := string_keyed Try.underlying9

/-- block b is a map of at most n names, to the slices that V says -/
def MapV (w : World) (b n : Nat) (V : ByteArray → Option Value) : Prop :=
  ∃ D : DataW Unit, w.ownsMap Try.prog 9 sv b n D ∧ ∀ s : ByteArray, has D (ky s) = (V s).isSome ∧ D.atKey (ky s) (sd nilS) = sd ((V s).getD nilS) ∧ isS ((V s).getD nilS) = true

section
variable {w w' : World} {b n : Nat} {V : ByteArray → Option Value}
theorem MapV.lt (h : MapV w b n V) : b < w.heap.size := by
  obtain ⟨D, h1, _⟩ := h
  exact h1.lt
theorem MapV.kept {row : Option Nat} (h : MapV w b n V) (hg : w.grownBy w' row) (hne : some b ≠ row) : MapV w' b n V := by
  obtain ⟨D, h1, h2⟩ := h
  exact ⟨D, h1.kept hg hne, h2⟩
theorem MapV.ofBlock (h : MapV w b n V) (hb : w'.heap[b]? = w.heap[b]?) : MapV w' b n V := by
  obtain ⟨D, ⟨es, cl, h1, h2⟩, h3⟩ := h
  exact ⟨D, ⟨es, cl, hb.trans h1, h2⟩, h3⟩
theorem MapV.new (w : World) : MapV (w.alloc (.map #[] 0)) w.heap.size 0 (fun _ => none) :=
  ⟨.map [], World.ownsMap_made w Try.prog 9 sv, fun _ => ⟨rfl, rfl, rfl⟩⟩
theorem MapV.look (h : MapV w b n V) (s : ByteArray) (hs : s.size ≤ maxLen) : (Instr.lookup 70 (.map (some b)) (.string s) true).run Try.prog w = .ok (.tuple #[(V s).getD nilS, .bool (V s).isSome]) w := by
  obtain ⟨D, h1, h2⟩ := h
  obtain ⟨v, ps, hrun, hv⟩ := h1.look_ok K Try.underlying70 (z := nilS) (by kernel_rfl) (sv_mk rfl) (keyOf_string_mk Try.underlying9 hs)
  obtain ⟨hv1, hv2⟩ := sv_inv hv
  obtain ⟨e1, e2, e3⟩ := h2 s
  have : v = (V s).getD nilS := sd_inj hv1 e3 (by rw [← e2]; exact hv2.symm)
  rw [hrun, this, ← e1]
  rfl
theorem MapV.look0 (h : MapV w b n V) (s : ByteArray) (hs : s.size ≤ maxLen) : (Instr.lookup 70 (.map (some b)) (.string s) false).run Try.prog w = .ok ((V s).getD nilS) w := by
  obtain ⟨D, h1, h2⟩ := h
  obtain ⟨v, ps, hrun, hv⟩ := h1.lookup K Try.underlying70 (z := nilS) (by kernel_rfl) (sv_mk rfl) (keyOf_string_mk Try.underlying9 hs)
  obtain ⟨hv1, hv2⟩ := sv_inv hv
  obtain ⟨e1, e2, e3⟩ := h2 s
  have : v = (V s).getD nilS := sd_inj hv1 e3 (by rw [← e2]; exact hv2.symm)
  rw [hrun, this]
theorem MapV.set (h : MapV w b n V) (s : ByteArray) (hs : s.size ≤ maxLen) (hn : n < maxLen) (v : Value) (hv : isS v = true) :
    ∃ w', (Instr.mapUpdate 70 (.map (some b)) (.string s) v).run Try.prog w = .ok () w' ∧ MapV w' b (n + 1) (fun t => if t = s then some v else V t) ∧ w.grownBy w' (some b) := by
  obtain ⟨D, h1, h2⟩ := h
  obtain ⟨w', hrun, h3, h4⟩ := h1.update K Try.underlying70 hn (keyOf_string_mk Try.underlying9 hs) (sv_mk hv)
  refine ⟨w', hrun, ⟨_, h3, fun t => ?_⟩, h4⟩
  by_cases e : t = s
  · subst e
    simp only [if_true]
    exact ⟨has_put_same h1.isMap (K.key (keyOf_string_mk Try.underlying9 hs)) _, atKey_put_same h1.isMap (K.key (keyOf_string_mk Try.underlying9 hs)) _ _, hv⟩
  · simp only [if_neg e]
    have hne : ky t ≠ ky s := fun h => e (ky_inj h)
    obtain ⟨e1, e2, e3⟩ := h2 t
    exact ⟨(has_put_other hne _).trans e1, (atKey_put_other hne _ _).trans e2, e3⟩
theorem MapV.del (h : MapV w b n V) (s : ByteArray) (hs : s.size ≤ maxLen) (ty : TypeId) :
    ∃ w', (Builtin.delete_ #[70, 9] ty #[.map (some b), .string s]).run Try.prog w = .ok (.tuple #[]) w' ∧ MapV w' b n (fun t => if t = s then none else V t) ∧ w.grownBy w' (some b) := by
  obtain ⟨D, h1, h2⟩ := h
  obtain ⟨w', hrun, h3, h4⟩ := h1.drop K Try.underlying70 (keyOf_string_mk Try.underlying9 hs) ty
  refine ⟨w', hrun, ⟨_, h3, fun t => ?_⟩, h4.grown⟩
  by_cases e : t = s
  · subst e
    simp only [if_true]
    exact ⟨has_del_same, atKey_del_same _, rfl⟩
  · simp only [if_neg e]
    have hne : ky t ≠ ky s := fun h => e (ky_inj h)
    obtain ⟨e1, e2, e3⟩ := h2 t
    exact ⟨(has_del_other hne).trans e1, (atKey_del_other hne _).trans e2, e3⟩
theorem MapV.len (h : MapV w b n V) (ty : TypeId) : ∃ m : Nat, m ≤ n ∧ (Builtin.len_ #[70] ty #[.map (some b)]).run Try.prog w = .ok (.int .i64 m) w := by
  obtain ⟨D, h1, h2⟩ := h
  exact ⟨_, h1.size_le, h1.len Try.underlying70 ty⟩
end
theorem look_nil1 (w : World) (s : ByteArray) (hs : s.size ≤ maxLen) : (Instr.lookup 70 (.map none) (.string s) true).run Try.prog w = .ok (.tuple #[nilS, .bool false]) w :=
  Maps.look_nil true K Try.underlying70 (z := nilS) (by kernel_rfl) (keyOf_string_mk Try.underlying9 hs)
theorem look_nil0 (w : World) (s : ByteArray) (hs : s.size ≤ maxLen) : (Instr.lookup 70 (.map none) (.string s) false).run Try.prog w = .ok nilS w :=
  Maps.look_nil false K Try.underlying70 (z := nilS) (by kernel_rfl) (keyOf_string_mk Try.underlying9 hs)
end Go.Proofs.Ytbdmlenapccdnaa
namespace Go.Proofs.Ytbdmlenapccdnaa
open Go.RowKit

/-- the slice v reads as l; from its end to its capacity there are cells -/
def RdB (w : World) (v : Value) (l : List Int) : Prop :=
  (v = nilS ∧ l = []) ∨ ∃ (g cap : Nat) (cur : Array Value), v = .slice (some ⟨g, 0, none⟩) l.length cap ∧ w.heap[g]? = some (.cells cur 5 (0, 0)) ∧ l.length ≤ cap ∧ cap ≤ cur.size ∧ cap ≤ maxLen ∧ cur.toList.take l.length = l.map (Value.int .u8)

section
variable {w w' : World} {v : Value} {l : List Int}
theorem RdB.nil : RdB w nilS [] := .inl ⟨rfl, rfl⟩
theorem RdB.isS (h : RdB w v l) : isS v = true := by
  rcases h with ⟨rfl, _⟩ | ⟨g, cap, cur, rfl, _⟩ <;> rfl
theorem RdB.form (h : RdB w v l) : ∃ A cap, v = .slice A l.length cap ∧ (A = none → cap = 0) ∧ l.length ≤ cap ∧ Rd w .u8 A l := by
  rcases h with ⟨rfl, rfl⟩ | ⟨g, cap, cur, rfl, hg, hn, hc, _, ht⟩
  · exact ⟨none, 0, rfl, fun _ => rfl, Nat.le_refl _, .inl rfl⟩
  · refine ⟨some ⟨g, 0, none⟩, cap, rfl, (fun e => by cases e), hn, .inr ⟨g, 0, rfl, (Array.getElem?_eq_some_iff.1 hg).1, fun i hi => ?_⟩⟩
    simp only [World.cell?, hg]
    have h1 : (cur.toList.take l.length)[i]? = some (.int .u8 (l[i]?.getD 0)) := by
      rw [ht, List.getElem?_map, List.getElem?_eq_getElem hi]; rfl
    rw [List.getElem?_take, if_pos hi, Array.getElem?_toList] at h1
    simpa using h1
theorem RdB.ofBlock (h : RdB w v l) (hb : ∀ g, v.ownBlock = some g → w'.heap[g]? = w.heap[g]?) : RdB w' v l := by
  rcases h with h | ⟨g, cap, cur, rfl, hg, h2⟩
  · exact .inl h
  · exact .inr ⟨g, cap, cur, rfl, (hb g rfl).trans hg, h2⟩
theorem RdB.keep (h : RdB w v l) (hb : Below w.heap.size w w') : RdB w' v l := by
  rcases h with h | ⟨g, cap, cur, rfl, hg, h2⟩
  · exact .inl h
  · exact .inr ⟨g, cap, cur, rfl, (hb.block g (Array.getElem?_eq_some_iff.1 hg).1).trans hg, h2⟩
theorem RdB.lt (h : RdB w v l) {g : Nat} (e : v.ownBlock = some g) : g < w.heap.size := by
  rcases h with ⟨rfl, _⟩ | ⟨g', cap, cur, rfl, hg, _⟩
  · cases e
  · cases e
    exact (Array.getElem?_eq_some_iff.1 hg).1
theorem RdB.far (h : RdB w v l) {row : Option Nat} (hg : w.grownBy w' row) (hne : ∀ g, v.ownBlock = some g → row ≠ some g) : RdB w' v l :=
  h.ofBlock (fun g e => hg.block g (h.lt e) (fun h' => hne g e h'.symm))
theorem RdB.own {base : Nat} (h : w.ownsRow base 5 1 v l.length (l.map (Value.int .u8))) : RdB w v l := by
  rcases h.2 with ⟨rfl, hn⟩ | ⟨g, cap, cur, rfl, _, hg, hnc, hcm, hcs, ht⟩
  · exact .inl ⟨rfl, List.eq_nil_of_length_eq_zero hn⟩
  · exact .inr ⟨g, cap, cur, rfl, hg, hnc, by omega, hcm, by simpa using ht⟩
end

/-- there is room behind the slice's end -/
def Spare (v : Value) (l : List Int) : Prop := ∃ A cap, v = .slice A l.length cap ∧ l.length < cap
/-- the longer slice: the old one, or one in a new block -/
def AppAt (B : Nat) (v : Value) (l m : List Int) (v' : Value) : Prop :=
  (∃ A cap, v = .slice A l.length cap ∧ v' = .slice A (l ++ m).length cap ∧ (l.length < cap ∨ m = [])) ∨ ∃ g, v'.ownBlock = some g ∧ B ≤ g
theorem AppAt.own {B : Nat} {v v' : Value} {l m : List Int} (h : AppAt B v l m v') : v'.ownBlock = v.ownBlock ∨ ∃ g, v'.ownBlock = some g ∧ B ≤ g := by
  rcases h with ⟨A, cap, rfl, rfl, _⟩ | h
  · left
    cases A <;> rfl
  · exact .inr h
theorem AppAt.mono {B B' : Nat} {v v' : Value} {l m : List Int} (h : AppAt B v l m v') (hB : B' ≤ B) : AppAt B' v l m v' := by
  rcases h with h | ⟨g, h, hg⟩
  · exact .inl h
  · exact .inr ⟨g, h, Nat.le_trans hB hg⟩
/-- what an append leaves: the longer slice, in its old row or a new one; all that reads no further than the old slice -/
structure Apd (w : World) (v : Value) (l m : List Int) (v' : Value) (w' : World) : Prop where
  rd : RdB w' v' (l ++ m)
  grown : w.grownBy w' v.ownBlock
  at_ : AppAt w.heap.size v l m v'
  stay : ∀ t lt, RdB w t lt → (t.ownBlock = v.ownBlock → Spare v l → lt.length ≤ l.length) → RdB w' t lt

theorem run_append_rb {w : World} {v : Value} {l m : List Int} {B : Option Addr} {cb : Nat} (ty : TypeId) (hv : RdB w v l) (hd : Rd w .u8 B m) (hB : B = none → cb = 0) (hb : l.length + m.length ≤ 100000000) :
    ∃ v' w', (Builtin.append_ #[28, 28] ty #[v, .slice B m.length cb]).run Try.prog w = .ok v' w' ∧ Apd w v l m v' w' := by
  obtain ⟨i0, hi, hz0, hz1, hz2⟩ := info_parts infoU8
  cases B with
  | none =>
    have hm : m = [] := by
      rcases hd with h | ⟨b, off, h, _⟩
      · exact h
      · cases h
    subst hm
    obtain rfl : cb = 0 := hB rfl
    refine ⟨v, w, ?_, ⟨by simpa using hv, ⟨rfl, rfl, rfl, Nat.le_refl _, fun _ _ _ => rfl⟩, ?_, fun _ _ h _ => h⟩⟩
    rotate_left
    · rcases hv with ⟨rfl, rfl⟩ | ⟨g, cap, cur, rfl, _⟩
      · exact .inl ⟨none, 0, rfl, rfl, .inr rfl⟩
      · exact .inl ⟨_, _, rfl, by simp, .inr rfl⟩
    rcases hv with ⟨rfl, rfl⟩ | ⟨g, cap, cur, rfl, hg, hn, _⟩
    · simp [nilS, Builtin.append_, run_underlying Try.underlying28, sizeOf, typeInfo, hi, Builtin.lenOf, Builtin.firstCells]
    · simp [Builtin.append_, run_underlying Try.underlying28, sizeOf, typeInfo, hi, Builtin.lenOf, Builtin.firstCells, hn, storeCells]
  | some ad =>
    rcases hv with ⟨rfl, rfl⟩ | ⟨g, cap, cur, rfl, hg, hn, hc, hcm, ht⟩
    · obtain ⟨v', w', hrun, h2, h3, _, h5⟩ := run_append_own_at (P := Try.prog) w w.heap.size 28 ty 5 i0 (.int .u8 0) 1 1 Try.underlying28 hi hz0 hz1 hz2 rfl (by decide) nilS 0 [] (World.ownsRow_nil w _ _ _) ad m.length cb (m.map (Value.int .u8)) (by simp) hd.add (ints_one m) (by unfold maxLen; simp at hb; omega) (by simp at hb; omega) (Nat.le_refl _)
      refine ⟨v', w', hrun, ⟨RdB.own (base := w.heap.size) (by simpa using h2), h3, ?_, fun t lt h _ => h.far h3 (fun g _ e => by cases e)⟩⟩
      rcases h5 with h5 | h5
      · rcases h2.2 with ⟨rfl, hn0⟩ | ⟨g, cap, cur, rfl, _⟩
        · have : m = [] := List.eq_nil_of_length_eq_zero (by simpa using hn0)
          subst this
          exact .inl ⟨none, 0, rfl, rfl, .inr rfl⟩
        · cases h5
      · exact .inr ⟨_, h5, Nat.le_refl _⟩
    · by_cases hroom : l.length + m.length ≤ cap
      · have hr := run_append_room (P := Try.prog) w 28 ty 5 i0 Try.underlying28 hi g l.length cap cur hg ad m.length cb (m.map (Value.int .u8)) (by simp [hz1]) hd.add (ints_one m) hroom (by simp [hz1]; omega)
        rw [hz1] at hr
        simp only [Nat.mul_one, List.length_map] at hr
        have hheap := setRow_heap w g cur (cur.toList.take l.length ++ m.map (Value.int .u8) ++ cur.toList.drop (l.length + m.length)).toArray 5 (0, 0) hg
        refine ⟨_, _, hr, ⟨.inr ⟨g, cap, _, by simp, hheap, by simpa using hroom, ?_, hcm, ?_⟩, ⟨rfl, rfl, rfl, by simp, fun k _ hk => setRow_other w g k _ (fun e => hk (by simp [Value.ownBlock, e]))⟩, .inl ⟨_, cap, rfl, by simp, by
          rcases Nat.lt_or_ge l.length cap with h | h
          · exact .inl h
          · exact .inr (List.eq_nil_of_length_eq_zero (by omega))⟩, ?_⟩⟩
        · simp
          omega
        · rw [ht, ← List.map_append]
          have : (l ++ m).length = ((l ++ m).map (Value.int .u8)).length := by simp
          rw [this]
          exact List.take_left
        · intro t lt h hle
          rcases h with h | ⟨g2, cap2, cur2, rfl, hg2, h3, h4, h5, h6⟩
          · exact .inl h
          · by_cases e : g2 = g
            · subst e
              rw [hg] at hg2
              injection hg2 with hg2
              injection hg2 with hg2
              subst hg2
              rcases Nat.lt_or_ge l.length cap with hsp | hsp
              rotate_left
              · have hm0 : m = [] := List.eq_nil_of_length_eq_zero (by omega)
                subst hm0
                have hsame : (cur.toList.take l.length ++ ([] : List Int).map (Value.int .u8) ++ cur.toList.drop (l.length + ([] : List Int).length)).toArray = cur := by simp
                rw [hsame] at hheap
                exact .inr ⟨g2, cap2, cur, rfl, by rw [hsame]; exact hheap, h3, h4, h5, h6⟩
              have hl := hle rfl ⟨_, cap, rfl, hsp⟩
              refine .inr ⟨g2, cap2, _, rfl, hheap, h3, ?_, h5, ?_⟩
              · simp
                omega
              · rw [List.append_assoc, List.toList_toArray, List.take_append_of_le_length (by simp; omega), List.take_take, Nat.min_eq_left hl]
                exact h6
            · exact .inr ⟨g2, cap2, cur2, rfl, (setRow_other w g g2 _ e).trans hg2, h3, h4, h5, h6⟩
      · have holds : ∀ j u, (l.map (Value.int .u8))[j]? = some u → w.cell? ((⟨g, 0, none⟩ : Addr).add j) = some u := by
          obtain ⟨A, c, e, _, _, hrd⟩ := (show RdB w (.slice (some ⟨g, 0, none⟩) l.length cap) l from .inr ⟨g, cap, cur, rfl, hg, hn, hc, hcm, ht⟩).form
          injection e with e1 e2 e3
          subst e1
          exact hrd.add
        have hsm : l.length + m.length ≤ maxLen := by unfold maxLen; omega
        have hr := run_append_grow (P := Try.prog) w 28 ty 5 i0 (.int .u8 0) Try.underlying28 hi hz0 ⟨g, 0, none⟩ l.length cap (l.map (Value.int .u8)) (by simp [hz1]) holds ad m.length cb (m.map (Value.int .u8)) (by simp [hz1]) hd.add (by omega) (by omega) (growslice_fits (by omega) (by rw [hz2]; omega))
        have hge := grownCap_ge w (l.length + m.length) cap 5
        refine ⟨_, _, hr, ⟨.inr ⟨w.heap.size, grownCap w (l.length + m.length) cap 5, _, by rw [List.length_append], heap_alloc_new w.drew _, by simpa using hge, ?_, grownCap_le_maxLen w _ _ _ hsm, ?_⟩, ⟨rfl, rfl, rfl, by simp, fun k hk _ => Below.heap_alloc w.drew _ k hk⟩, .inr ⟨_, rfl, Nat.le_refl _⟩, ?_⟩⟩
        · rw [Array.size_append, size_zeroCells, show (Value.int .u8 0).cells.size = 1 from rfl]
          simp
          omega
        · simp only [Array.toList_append, ← List.map_append]
          have : (l ++ m).length = ((l ++ m).map (Value.int .u8)).length := by simp
          rw [this]
          exact List.take_left
        · intro t lt h _
          exact h.ofBlock (fun k e => Below.heap_alloc w.drew _ k (h.lt e))

theorem wp_append_rb {w : World} {o : Oper} {a : Act} {K : Act → World → Prop} {Q : Exit → Act → World → Prop} (s x : Operand) (ho : o.op = .call { callee := .builtin .append, args := #[s, x], argTypes := #[28, 28] })
    (v : Value) (l m : List Int) (B : Option Addr) (n cb : Nat) (hn : n = m.length) (hs : a.eval s = v) (hx : a.eval x = .slice B n cb) (hv : RdB w v l) (hd : Rd w .u8 B m) (hB : B = none → cb = 0) (hb : l.length + m.length ≤ 100000000)
    (h : ∀ v' w', Apd w v l m v' w' → K (a.put o.dst v') w') : o.wp Try.prog a w K Q := by
  subst hn
  obtain ⟨v', w', hrun, h2⟩ := run_append_rb o.type hv hd hB hb
  unfold Oper.wp execOp
  simp only [ho, resolve, invoke, builtin, Sem.run_bind, Sem.run_pure, Result.andThen_ok, List.map_toArray, List.map_cons, List.map_nil, hs, hx, hrun]
  exact h v' w' h2
theorem step_append_rb {w : World} {ops : Array Oper} {o : Oper} {a : Act} {K : Act → World → Prop} {Q : Exit → Act → World → Prop} {E : Prop} (hgd : o.guard = none) (s x : Operand) (ho : o.op = .call { callee := .builtin .append, args := #[s, x], argTypes := #[28, 28] })
    (v : Value) (l m : List Int) (B : Option Addr) (n cb : Nat) (hn : n = m.length) (hs : a.eval s = v) (hx : a.eval x = .slice B n cb) (hv : RdB w v l) (hd : Rd w .u8 B m) (hB : B = none → cb = 0) (hb : l.length + m.length ≤ 100000000)
    (h : ∀ v' w', Apd w v l m v' w' → K (a.put o.dst v') w') : if Region.wanted o (yielded ops a.tmps) = true then Oper.wp Try.prog o a w K Q else E := by
  have hw : Region.wanted o (yielded ops a.tmps) = true := by simp [Region.wanted, hgd]
  rw [if_pos hw]
  exact wp_append_rb s x ho v l m B n cb hn hs hx hv hd hB hb h

/-- a store into a map of slices -/
theorem wp_mapSet {w : World} {o : Oper} {a : Act} {K : Act → World → Prop} {Q : Exit → Act → World → Prop} (mm x u : Operand) (ho : o.op = Op.mapUpdate 70 mm x u)
    (b n : Nat) (V : ByteArray → Option Value) (s : ByteArray) (v : Value) (hm : a.eval mm = .map (some b)) (hx : a.eval x = .string s) (hu : a.eval u = v) (hM : MapV w b n V) (hs : s.size ≤ maxLen) (hn : n < maxLen) (hv : isS v = true)
    (h : ∀ w', MapV w' b (n + 1) (fun t => if t = s then some v else V t) → w.grownBy w' (some b) → K (a.put o.dst undef) w') : o.wp Try.prog a w K Q := by
  obtain ⟨w', hrun, h2, h3⟩ := hM.set s hs hn v hv
  unfold Oper.wp
  simp [execOp, ho, hm, hx, hu, hrun, Result.andThen]
  exact h w' h2 h3
theorem step_mapSet {w : World} {ops : Array Oper} {o : Oper} {a : Act} {K : Act → World → Prop} {Q : Exit → Act → World → Prop} {E : Prop} (hgd : o.guard = none) (mm x u : Operand) (ho : o.op = Op.mapUpdate 70 mm x u)
    (b n : Nat) (V : ByteArray → Option Value) (s : ByteArray) (v : Value) (hm : a.eval mm = .map (some b)) (hx : a.eval x = .string s) (hu : a.eval u = v) (hM : MapV w b n V) (hs : s.size ≤ maxLen) (hn : n < maxLen) (hv : isS v = true)
    (h : ∀ w', MapV w' b (n + 1) (fun t => if t = s then some v else V t) → w.grownBy w' (some b) → K (a.put o.dst undef) w') : if Region.wanted o (yielded ops a.tmps) = true then Oper.wp Try.prog o a w K Q else E := by
  have hw : Region.wanted o (yielded ops a.tmps) = true := by simp [Region.wanted, hgd]
  rw [if_pos hw]
  exact wp_mapSet mm x u ho b n V s v hm hx hu hM hs hn hv h
theorem wpList_mapSet {w : World} {ops : Array Oper} {rest : List Oper} {o : Oper} {a : Act} {Q : Exit → Act → World → Prop} (hgd : o.guard = none) (mm x u : Operand) (ho : o.op = Op.mapUpdate 70 mm x u)
    (b n : Nat) (V : ByteArray → Option Value) (s : ByteArray) (v : Value) (hm : a.eval mm = .map (some b)) (hx : a.eval x = .string s) (hu : a.eval u = v) (hM : MapV w b n V) (hs : s.size ≤ maxLen) (hn : n < maxLen) (hv : isS v = true)
    (h : ∀ w', MapV w' b (n + 1) (fun t => if t = s then some v else V t) → w.grownBy w' (some b) → wpList Try.prog ops Q rest (a.put o.dst undef) w') : wpList Try.prog ops Q (o :: rest) a w :=
  wpList_plain hgd fun _ hK => wp_mapSet mm x u ho b n V s v hm hx hu hM hs hn hv fun w' h1 h2 => hK _ _ (h w' h1 h2)

end Go.Proofs.Ytbdmlenapccdnaa
namespace Go.Proofs.Ytbdmlenapccdnaa
open Go.RowKit

/-- only the blocks of S, and new ones, have turned -/
structure Fr (S : Nat → Prop) (w w' : World) : Prop where
  os : w'.os = w.os
  tape : w'.tape = w.tape
  output : w'.output = w.output
  size : w.heap.size ≤ w'.heap.size
  block : ∀ k, k < w.heap.size → ¬ S k → w'.heap[k]? = w.heap[k]?
theorem Fr.refl (S : Nat → Prop) (w : World) : Fr S w w := ⟨rfl, rfl, rfl, Nat.le_refl _, fun _ _ _ => rfl⟩
theorem Fr.trans {S : Nat → Prop} {a b c : World} (h : Fr S a b) (k : Fr S b c) : Fr S a c :=
  ⟨k.os.trans h.os, k.tape.trans h.tape, k.output.trans h.output, Nat.le_trans h.size k.size, fun i hi hn => (k.block i (Nat.lt_of_lt_of_le hi h.size) hn).trans (h.block i hi hn)⟩
/-- new blocks may turn, too -/
theorem Fr.then {S T : Nat → Prop} {a b c : World} (h : Fr S a b) (k : Fr T b c) (hT : ∀ i, T i → S i ∨ a.heap.size ≤ i) : Fr S a c :=
  ⟨k.os.trans h.os, k.tape.trans h.tape, k.output.trans h.output, Nat.le_trans h.size k.size, fun i hi hn => (k.block i (Nat.lt_of_lt_of_le hi h.size) (fun ht => by
    rcases hT i ht with h' | h'
    · exact hn h'
    · omega)).trans (h.block i hi hn)⟩
theorem Fr.mono {S T : Nat → Prop} {a b : World} (h : Fr S a b) (hT : ∀ i, S i → T i ∨ a.heap.size ≤ i) : Fr T a b :=
  ⟨h.os, h.tape, h.output, h.size, fun i hi hn => h.block i hi (fun hs => by
    rcases hT i hs with h' | h'
    · exact hn h'
    · omega)⟩
theorem Fr.grown {a b : World} {row : Option Nat} (h : a.grownBy b row) : Fr (fun k => row = some k) a b := ⟨h.os, h.tape, h.output, h.size, fun k hk hn => h.block k hk (fun e => hn e.symm)⟩
theorem Fr.alloc (w : World) (o : Obj) (S : Nat → Prop) : Fr S w (w.alloc o) := ⟨rfl, rfl, rfl, by simp, fun k hk _ => Below.heap_alloc w o k hk⟩
theorem Fr.drew (w : World) (S : Nat → Prop) : Fr S w w.drew := ⟨rfl, rfl, rfl, Nat.le_refl _, fun _ _ _ => rfl⟩
theorem Fr.drewN (w : World) (n : Nat) (S : Nat → Prop) : Fr S w (w.drewN n) := ⟨rfl, rfl, rfl, Nat.le_refl _, fun _ _ _ => rfl⟩
theorem Fr.set (w : World) (g i : Nat) (v : Value) : Fr (fun k => k = g) w (w.setCell ⟨g, i, none⟩ v) :=
  ⟨rfl, rfl, rfl, by simp [World.setCell], fun k _ hk => Below.heap_setCell w ⟨g, i, none⟩ v k hk⟩
theorem Fr.below {S : Nat → Prop} {a b : World} {B : Nat} (h : Fr S a b) (hS : ∀ k, S k → B ≤ k) (hB : B ≤ a.heap.size) : Below B a b :=
  ⟨h.os, h.tape, h.output, h.size, fun k hk => h.block k (by omega) (fun hs => by have := hS k hs; omega)⟩

/-- a block of cells, known whole -/
def Cel (w : World) (g : Nat) (t : TypeId) (C : Array Value) : Prop := w.heap[g]? = some (.cells C t (0, 0))
section
variable {w w' : World} {g : Nat} {t : TypeId} {C : Array Value}
theorem Cel.lt (h : Cel w g t C) : g < w.heap.size := (Array.getElem?_eq_some_iff.1 h).1
theorem Cel.cell (h : Cel w g t C) (i : Nat) : w.cell? ⟨g, i, none⟩ = C[i]? := by
  have h' : w.heap[g]? = _ := h
  simp [World.cell?, h']
theorem Cel.fz (h : Cel w g t C) (i : Nat) : w.frozen? ⟨g, i, none⟩ = false := by
  have h' : w.heap[g]? = _ := h
  simp [World.frozen?, h']
theorem Cel.set (h : Cel w g t C) (i : Nat) (v : Value) : Cel (w.setCell ⟨g, i, none⟩ v) g t (C.setIfInBounds i v) := by
  have h' : w.heap[g]? = _ := h
  unfold Cel
  simp [World.setCell, Array.getElem?_modify, h']
theorem Cel.of (h : Cel w g t C) (hb : w'.heap[g]? = w.heap[g]?) : Cel w' g t C := hb.trans h
theorem Cel.ne_map (h : Cel w g t C) {b n : Nat} {V : ByteArray → Option Value} (hM : MapV w b n V) : g ≠ b := by
  rintro rfl
  obtain ⟨D, ⟨es, cl, h1, _⟩, _⟩ := hM
  have h' : w.heap[g]? = _ := h
  rw [h'] at h1
  cases h1
theorem Cel.ne_rd (h : Cel w g t C) {v : Value} {l : List Int} (hv : RdB w v l) (ht : t ≠ 5) : v.ownBlock ≠ some g := by
  rcases hv with ⟨rfl, _⟩ | ⟨g', cap, cur, rfl, hg, _⟩
  · simp [nilS, Value.ownBlock]
  · intro e
    obtain rfl : g' = g := by injection e
    have h' : w.heap[g']? = _ := h
    rw [h'] at hg
    injection hg with hg
    injection hg with _ hg
    exact ht hg
end
theorem map_ne_rd {w : World} {b n : Nat} {V : ByteArray → Option Value} (hM : MapV w b n V) {v : Value} {l : List Int} (hv : RdB w v l) : v.ownBlock ≠ some b := by
  rcases hv with ⟨rfl, _⟩ | ⟨g', cap, cur, rfl, hg, _⟩
  · simp [nilS, Value.ownBlock]
  · intro e
    cases e
    obtain ⟨D, ⟨es, cl, h1, _⟩, _⟩ := hM
    rw [hg] at h1
    cases h1

/-- a volume's files: none yet, or a map -/
def Files (w : World) (m : Option Nat) (n : Nat) (V : ByteArray → Option Value) : Prop :=
  (m = none ∧ V = fun _ => none) ∨ ∃ b, m = some b ∧ MapV w b n V

/-- what a write leaves: of the volume at o in block d -/
def Wrote (w : World) (d o : Nat) (T : TypeId) (C : Array Value) (m : Option Nat) (n : Nat) (V : ByteArray → Option Value) (s : ByteArray) (l data : List Int) (used : Int) (e : Ending) (w' : World) : Prop :=
  e = .returned (.tuple #[]) ∧ ∃ b v', Cel w' d T ((C.setIfInBounds o (.map (some b))).setIfInBounds (o + 1) (.int .i64 (used + data.length))) ∧ MapV w' b (n + 1) (fun t => if t = s then some v' else V t) ∧ (m = some b ∨ m = none ∧ w.heap.size ≤ b) ∧
    RdB w' v' (l ++ data) ∧ AppAt w.heap.size ((V s).getD nilS) l data v' ∧
    (∀ t lt, RdB w t lt → (t.ownBlock = ((V s).getD nilS).ownBlock → Spare ((V s).getD nilS) l → lt.length ≤ l.length) → RdB w' t lt) ∧ Fr (fun k => k = d ∨ m = some k ∨ ((V s).getD nilS).ownBlock = some k) w w'

theorem map_nil_no (w : World) (b : Nat) : Sem.run Try.prog (binOp .eql 70 (.map (some b)) (.map none)) w = .ok (.bool false) w := by kernel_rfl
theorem map_nil_yes (w : World) : Sem.run Try.prog (binOp .eql 70 (.map none) (.map none)) w = .ok (.bool true) w := by kernel_rfl

theorem set_self {C : Array Value} {i : Nat} {v : Value} (h : C[i]? = some v) : C.setIfInBounds i v = C := by
  obtain ⟨hi, hv⟩ := Array.getElem?_eq_some_iff.1 h
  apply Array.ext
  · simp
  · intro j h1 h2
    rw [Array.getElem_setIfInBounds]
    split
    · rename_i e; subst e; exact hv.symm
    · rfl
theorem wrote_mk {w w4 w5 : World} {d o : Nat} {T : TypeId} {C : Array Value} {b n : Nat} {V : ByteArray → Option Value} {s : ByteArray} {l data : List Int} {used : Int} {v v4 : Value}
    (hC : Cel w d T C) (hT : T ≠ 5) (c0 : C[o]? = some (.map (some b))) (hM : MapV w b n V) (hvs : (V s).getD nilS = v) (hv : RdB w v l) (hA4 : Apd w.drew v l data v4 w4) (hd4 : w4.heap[d]? = w.heap[d]?) (hb4 : w4.heap[b]? = w.heap[b]?)
    (hM5 : MapV w5 b (n + 1) (fun t => if t = s then some v4 else V t)) (hg5 : w4.grownBy w5 (some b)) :
    Wrote w d o T C (some b) n V s l data used (.returned (.tuple #[])) (w5.setCell ⟨d, o + 1, none⟩ (.int .i64 (used + data.length))) := by
  have hdl := hC.lt
  have hbl := hM.lt
  have hdb : d ≠ b := hC.ne_map hM
  have hnd : v.ownBlock ≠ some d := hC.ne_rd hv hT
  have hnb : v.ownBlock ≠ some b := map_ne_rd hM hv
  have hs4 := hA4.grown.size
  have hs4' : w.heap.size ≤ w4.heap.size := hs4
  have hd5 : w5.heap[d]? = w.heap[d]? := (hg5.block d (by omega) (fun e => hdb (by injection e))).trans hd4
  have hC5 := hC.of hd5
  have hup : ∀ t lt, RdB w4 t lt → RdB (w5.setCell ⟨d, o + 1, none⟩ (.int .i64 (used + data.length))) t lt := by
    intro t lt h
    have h1 : t.ownBlock ≠ some b := map_ne_rd (hM.ofBlock hb4) h
    have h2 : t.ownBlock ≠ some d := (hC.of hd4).ne_rd h hT
    have h3 := h.far hg5 (fun g e e' => h1 (by rw [e]; exact e'.symm ▸ rfl))
    exact h3.ofBlock (fun g e => Below.heap_setCell w5 ⟨d, o + 1, none⟩ _ g (fun e' => h2 (by rw [e, e'])))
  refine ⟨rfl, b, v4, ?_, hM5.ofBlock (Below.heap_setCell w5 ⟨d, o + 1, none⟩ _ b (fun e => hdb e.symm)), .inl rfl, hup _ _ hA4.rd, ?_, ?_, ?_⟩
  · rw [set_self c0]
    exact hC5.set (o + 1) _
  · rw [hvs]
    exact hA4.at_
  · intro t lt h hle
    rw [hvs] at hle
    exact hup t lt (hA4.stay t lt (h.ofBlock (fun _ _ => rfl)) hle)
  · rw [hvs]
    have f1 : Fr (fun k => k = d ∨ some b = some k ∨ v.ownBlock = some k) w w4 := ((Fr.drew w _).trans (Fr.grown hA4.grown)).mono (fun i h => .inl (.inr (.inr h)))
    have f2 : Fr (fun k => k = d ∨ some b = some k ∨ v.ownBlock = some k) w4 w5 := (Fr.grown hg5).mono (fun i h => .inl (.inr (.inl h)))
    have f3 : Fr (fun k => k = d ∨ some b = some k ∨ v.ownBlock = some k) w5 (w5.setCell ⟨d, o + 1, none⟩ (.int .i64 (used + data.length))) := (Fr.set w5 d (o + 1) _).mono (fun i h => .inl (.inl h))
    exact (f1.trans f2).trans f3

set_option maxRecDepth 100000 in
set_option maxHeartbeats 1000000 in
theorem vwrite_some (w : World) (d o : Nat) (T : TypeId) (C : Array Value) (b n : Nat) (V : ByteArray → Option Value) (s : ByteArray) (l data : List Int) (used : Int) (B : Option Addr) (cb : Nat)
    (hC : Cel w d T C) (hT : T ≠ 5) (c0 : C[o]? = some (.map (some b))) (c1 : C[o + 1]? = some (.int .i64 used)) (hM : MapV w b n V) (hs : s.size ≤ maxLen) (hn : n < 1000000) (hv : RdB w ((V s).getD nilS) l) (hd : Rd w .u8 B data) (hB : B = none → cb = 0)
    (hl : l.length + data.length ≤ 100000000) (hu : 0 ≤ used ∧ used ≤ 1000000000000) :
    Calls Try.prog 65 #[.pointer (some ⟨d, o, none⟩), .string s, .slice B data.length cb] w (Wrote w d o T C (some b) n V s l data used) := by
  have h0 := (hC.cell o).trans c0
  have f0 := hC.fz o
  have hlk := hM.look0 s hs
  obtain ⟨v, hvv⟩ : ∃ v, (V s).getD nilS = v := ⟨_, rfl⟩
  rw [hvv] at hv hlk
  have HV := Lib.hid hvv
  have hnd : v.ownBlock ≠ some d := hC.ne_rd hv hT
  have hnb : v.ownBlock ≠ some b := map_ne_rd hM hv
  have hdb : d ≠ b := hC.ne_map hM
  have hdl := hC.lt
  have hbl := hM.lt
  have hlk2 : (Instr.lookup 70 (.map (some b)) (.string s) false).run Try.prog w.drew = .ok v w.drew := by
    have := (hM.ofBlock (w' := w.drew) rfl).look0 s hs
    rw [hvv] at this
    exact this
  have q1 := fun W => map_nil_no W b
  have HC0 := Lib.hid c0
  have HC1 := Lib.hid c1
  clear hvv c0 c1
  go_enter Try.func65, Try.ntmps65
  go_wp2_with fail
  go_region_held3 (fun w' => w'.cell? ⟨d, o, none⟩ = some (.map (some b)))
    (first | go_keep | exact h04 | exact h05)
    (first
      | (refine step_append_rb (by rfl) _ _ (by rfl) v l data B data.length cb rfl (by rfl) (by rfl) (hv.ofBlock (fun _ _ => rfl)) (hd.keep (Nat.le_refl _) (fun _ _ => rfl)) hB hl ?_; intro v4 w4 hA4; have hd4 : w4.heap[d]? = w.heap[d]? := hA4.grown.block d hdl (fun e => hnd e.symm); have hb4 : w4.heap[b]? = w.heap[b]? := hA4.grown.block b hbl (fun e => hnb e.symm); have h04 : w4.cell? ⟨d, o, none⟩ = some (.map (some b)) := ((hC.of hd4).cell o).trans HC0.out; obtain ⟨w5, hrun5, hM5, hg5⟩ := (hM.ofBlock hb4).set s hs (by unfold maxLen; omega) v4 hA4.rd.isS; have hd5 : w5.heap[d]? = w.heap[d]? := (hg5.block d (Nat.lt_of_lt_of_le hdl hA4.grown.size) (fun e => hdb (by injection e))).trans hd4; have hC5 := hC.of hd5; have h05 : w5.cell? ⟨d, o, none⟩ = some (.map (some b)) := (hC5.cell o).trans HC0.out; have h15 : w5.cell? ⟨d, o + 1, none⟩ = some (.int .i64 used) := (hC5.cell (o + 1)).trans HC1.out; have f15 := hC5.fz (o + 1)))
  go_wp2
  go_end0
  have hvs : (V s).getD nilS = v := HV.out
  exact wrote_mk hC hT HC0.out hM hvs hv hA4 hd4 hb4 hM5 hg5

end Go.Proofs.Ytbdmlenapccdnaa
namespace Go.Proofs.Ytbdmlenapccdnaa
open Go.RowKit

theorem look_none (w : World) (s : ByteArray) (hs : s.size ≤ maxLen) : (Instr.lookup 70 (.map none) (.string s) false).run Try.prog w = .ok nilS w := look_nil0 w s hs

theorem Files.look {w : World} {m : Option Nat} {n : Nat} {V : ByteArray → Option Value} (h : Files w m n V) (s : ByteArray) (hs : s.size ≤ maxLen) (W : World) (hW : ∀ b, m = some b → W.heap[b]? = w.heap[b]?) :
    (Instr.lookup 70 (.map m) (.string s) false).run Try.prog W = .ok ((V s).getD nilS) W := by
  rcases h with ⟨rfl, rfl⟩ | ⟨b, rfl, h⟩
  · exact look_nil0 W s hs
  · exact (h.ofBlock (hW b rfl)).look0 s hs
theorem Files.lookOk {w : World} {m : Option Nat} {n : Nat} {V : ByteArray → Option Value} (h : Files w m n V) (s : ByteArray) (hs : s.size ≤ maxLen) (W : World) (hW : ∀ b, m = some b → W.heap[b]? = w.heap[b]?) :
    (Instr.lookup 70 (.map m) (.string s) true).run Try.prog W = .ok (.tuple #[(V s).getD nilS, .bool (V s).isSome]) W := by
  rcases h with ⟨rfl, rfl⟩ | ⟨b, rfl, h⟩
  · exact look_nil1 W s hs
  · exact (h.ofBlock (hW b rfl)).look s hs
theorem Files.ofBlock {w w' : World} {m : Option Nat} {n : Nat} {V : ByteArray → Option Value} (h : Files w m n V) (hW : ∀ b, m = some b → w'.heap[b]? = w.heap[b]?) : Files w' m n V := by
  rcases h with h | ⟨b, rfl, h⟩
  · exact .inl h
  · exact .inr ⟨b, rfl, h.ofBlock (hW b rfl)⟩

theorem has_any (w : World) (d o : Nat) (T : TypeId) (C : Array Value) (m : Option Nat) (n : Nat) (V : ByteArray → Option Value) (s : ByteArray) (hC : Cel w d T C) (c0 : C[o]? = some (.map m)) (hF : Files w m n V) (hs : s.size ≤ maxLen) :
    Calls Try.prog 38 #[.pointer (some ⟨d, o, none⟩), .string s] w fun e w' => e = .returned (.bool (V s).isSome) ∧ w = w' := by
  have h0 := (hC.cell o).trans c0
  have hl := hF.lookOk s hs w (fun _ _ => rfl)
  clear hF c0
  go_enter Try.func38, Try.ntmps38
  go_wp2
  go_ret
  exact ⟨rfl, rfl⟩

theorem make_map (w : World) : (Instr.makeMap 70 none).run Try.prog w = .ok (.map (some w.heap.size)) (w.alloc (.map #[] 0)) := by
  simp [Instr.makeMap]
theorem MapV.mono {w : World} {b n n' : Nat} {V : ByteArray → Option Value} (h : MapV w b n V) (hn : n ≤ n') : MapV w b n' V := by
  obtain ⟨D, h1, h2⟩ := h
  exact ⟨D, h1.mono hn, h2⟩

set_option maxRecDepth 100000 in
set_option maxHeartbeats 1000000 in
theorem vwrite_none (w : World) (d o : Nat) (T : TypeId) (C : Array Value) (s : ByteArray) (data : List Int) (used : Int) (B : Option Addr) (cb n : Nat)
    (hC0 : Cel w d T C) (hT : T ≠ 5) (c00 : C[o]? = some (.map none)) (c1 : C[o + 1]? = some (.int .i64 used)) (hs : s.size ≤ maxLen) (hd : RdB w (.slice B data.length cb) data)
    (hl : data.length ≤ 100000000) (hu : 0 ≤ used ∧ used ≤ 1000000000000) (hn : n < 1000000) :
    Calls Try.prog 65 #[.pointer (some ⟨d, o, none⟩), .string s, .slice B data.length cb] w (Wrote w d o T C none n (fun _ => none) s [] data used) := by
  have h00 := (hC0.cell o).trans c00
  have f00 := hC0.fz o
  have q0 := fun W => map_nil_yes W
  have hdl0 := hC0.lt
  have qm := make_map w
  obtain ⟨w0, hw0⟩ : ∃ w0, (w.setCell ⟨d, o, none⟩ (.map (some w.heap.size))).alloc (.map #[] 0) = w0 := ⟨_, rfl⟩
  have hoC : o < C.size := (Array.getElem?_eq_some_iff.1 c00).1
  have hsz : (w.setCell ⟨d, o, none⟩ (.map (some w.heap.size))).heap.size = w.heap.size := by simp [World.setCell]
  have hC : Cel w0 d T (C.setIfInBounds o (.map (some w.heap.size))) := by rw [← hw0]; exact (hC0.set o _).of (Below.heap_alloc _ _ d (by omega))
  have hM : MapV w0 w.heap.size n (fun _ => none) := by
    have := MapV.new (w.setCell ⟨d, o, none⟩ (.map (some w.heap.size)))
    rw [hsz, hw0] at this
    exact this.mono (Nat.zero_le _)
  have c0 : (C.setIfInBounds o (.map (some w.heap.size)))[o]? = some (.map (some w.heap.size)) := by simp [hoC]
  have c1' : (C.setIfInBounds o (.map (some w.heap.size)))[o + 1]? = some (.int .i64 used) := by rw [Array.getElem?_setIfInBounds]; simp [c1]
  have hf0 : Fr (fun k => k = d) w w0 := by rw [← hw0]; exact (Fr.set _ d o _).trans (Fr.alloc _ _ _)
  have hst : ∀ t lt, RdB w t lt → RdB w0 t lt := fun t lt h => h.ofBlock (fun g e => hf0.block g (h.lt e) (fun e' => hC0.ne_rd h hT (by rw [e, e'])))
  obtain ⟨B', cb', hBe, hB, _, hd0⟩ := (hst _ _ hd).form
  obtain ⟨rfl, rfl⟩ : B = B' ∧ cb = cb' := by injection hBe with h1 _ h2; exact ⟨h1, h2⟩
  have h0 := (hC.cell o).trans c0
  have hlk2 := (hM.ofBlock (w' := w0.drew) rfl).look0 s hs
  have hdl := hC.lt
  have hbl := hM.lt
  have hdb : d ≠ w.heap.size := by omega
  have HC0 := Lib.hid c0
  have HC1 := Lib.hid c1'
  have HW := Lib.hid hw0
  clear c00 c1 c0 c1' hw0
  go_enter Try.func65, Try.ntmps65
  go_upto_region 2 with fail
  rw [HW.out]
  obtain ⟨b, hbb⟩ : ∃ b, w.heap.size = b := ⟨_, rfl⟩
  rw [hbb] at hC hM h0 hlk2 hbl hdb HC0 HC1
  rw [hbb]
  have HBB := Lib.hid hbb
  clear HW qm hbb q0
  have hnn : RdB w0.drew nilS [] := RdB.nil
  go_region_held3 (fun w' => w'.cell? ⟨d, o, none⟩ = some (.map (some b)))
    (first | go_keep | exact h04 | exact h05)
    (first
      | (refine step_append_rb (by rfl) _ _ (by rfl) nilS [] data B data.length cb rfl (by rfl) (by rfl) hnn (hd0.keep (Nat.le_refl _) (fun _ _ => rfl)) hB (by simpa using hl) ?_; intro v4 w4 hA4; have hd4 : w4.heap[d]? = w0.heap[d]? := hA4.grown.block d hdl (fun e => by cases e); have hb4 : w4.heap[b]? = w0.heap[b]? := hA4.grown.block b hbl (fun e => by cases e); have h04 : w4.cell? ⟨d, o, none⟩ = some (.map (some b)) := ((hC.of hd4).cell o).trans HC0.out; obtain ⟨w5, hrun5, hM5, hg5⟩ := (hM.ofBlock hb4).set s hs (by unfold maxLen; omega) v4 hA4.rd.isS; have hd5 : w5.heap[d]? = w0.heap[d]? := (hg5.block d (Nat.lt_of_lt_of_le hdl hA4.grown.size) (fun e => hdb (by injection e))).trans hd4; have hC5 := hC.of hd5; have h05 : w5.cell? ⟨d, o, none⟩ = some (.map (some b)) := (hC5.cell o).trans HC0.out; have h15 : w5.cell? ⟨d, o + 1, none⟩ = some (.int .i64 used) := (hC5.cell (o + 1)).trans HC1.out; have f15 := hC5.fz (o + 1)))
  go_wp2
  go_end0
  obtain ⟨_, b', v', h1, h2, h3, h4, h5, h6, h7⟩ := wrote_mk (used := used) hC hT HC0.out hM rfl (RdB.nil (w := w0)) hA4 hd4 hb4 hM5 hg5
  refine ⟨rfl, b', v', ?_, h2, .inr ⟨rfl, ?_⟩, h4, ?_, fun t lt h hle => h6 t lt (hst t lt h) hle, ?_⟩
  · rcases h3 with h3 | ⟨h3, _⟩
    · cases h3
      simpa using h1
    · cases h3
  · rcases h3 with h3 | ⟨h3, _⟩
    · cases h3
      exact Nat.le_of_eq HBB.out
    · cases h3
  · exact h5.mono hf0.size
  · refine (hf0.mono (fun i h => .inl (.inl h))).then h7 (fun i h => ?_)
    rcases h with h | h | h
    · exact .inl (.inl h)
    · cases h
      exact .inr (Nat.le_of_eq HBB.out)
    · cases h

end Go.Proofs.Ytbdmlenapccdnaa
namespace Go.Proofs.Ytbdmlenapccdnaa
open Go.RowKit

set_option maxRecDepth 100000 in
set_option maxHeartbeats 1000000 in
theorem vdrop_any (w : World) (d o : Nat) (T : TypeId) (C : Array Value) (b n : Nat) (V : ByteArray → Option Value) (s : ByteArray) (l : List Int) (used : Int)
    (hC : Cel w d T C) (c0 : C[o]? = some (.map (some b))) (c1 : C[o + 1]? = some (.int .i64 used)) (hM : MapV w b n V) (hs : s.size ≤ maxLen) (hv : RdB w ((V s).getD nilS) l) (hl : l.length ≤ 100000000) (hu : 0 ≤ used ∧ used ≤ 1000000000000) :
    Calls Try.prog 67 #[.pointer (some ⟨d, o, none⟩), .string s] w fun e w' => e = .returned (.tuple #[]) ∧ Cel w' d T (C.setIfInBounds (o + 1) (.int .i64 (used - l.length))) ∧ MapV w' b n (fun t => if t = s then none else V t) ∧ Fr (fun k => k = d ∨ k = b) w w' := by
  have h0 := (hC.cell o).trans c0
  have h1 := (hC.cell (o + 1)).trans c1
  have f1 := hC.fz (o + 1)
  obtain ⟨A, cap, hvf, _, _, _⟩ := hv.form
  have hlk := hM.look0 s hs
  rw [hvf] at hlk
  have hdb : d ≠ b := hC.ne_map hM
  obtain ⟨w2, hw2⟩ : ∃ w2, w.drew = w2 := ⟨_, rfl⟩
  have hlk2 : (Instr.lookup 70 (.map (some b)) (.string s) false).run Try.prog w2 = .ok (.slice A l.length cap) w2 := by
    have := (hM.ofBlock (w' := w2) (by rw [← hw2]; rfl)).look0 s hs
    rw [hvf] at this
    exact this
  have hC2 : Cel w2 d T C := hC.of (by rw [← hw2]; rfl)
  have hM2 : MapV w2 b n V := hM.ofBlock (by rw [← hw2]; rfl)
  have hf2 : Fr (fun k => k = d ∨ k = b) w w2 := by rw [← hw2]; exact Fr.drew w _
  have k0 := (hC2.cell o).trans c0
  have k1 := (hC2.cell (o + 1)).trans c1
  have g1 := hC2.fz (o + 1)
  have HC0 := Lib.hid c0
  have HV := Lib.hid hvf
  clear c0 c1 hvf
  obtain ⟨w3, hrun3, hM3, hg3⟩ := ((hM2.ofBlock (w' := w2.setCell ⟨d, o + 1, none⟩ (.int .i64 (used - l.length))) (Below.heap_setCell w2 ⟨d, o + 1, none⟩ _ b (fun e => hdb e.symm))).del s hs 0)
  go_enter Try.func67, Try.ntmps67
  go_wp2_with fail
  go_still_tail 14, (by kernel_rfl)
  change wpList _ _ _ _ _ w.drew
  rw [hw2]
  go_wp2
  go_end0
  have hb3 : w3.heap[d]? = _ := hg3.block d (by simp [World.setCell]; exact hC2.lt) (fun e => hdb (by injection e))
  exact ⟨rfl, (hC2.set (o + 1) _).of hb3, hM3, (hf2.trans ((Fr.set w2 d (o + 1) _).mono (fun i h => .inl (.inl h)))).trans ((Fr.grown hg3).mono (fun i h => .inl (.inr (by injection h with h; exact h.symm))))⟩

set_option maxRecDepth 100000 in
set_option maxHeartbeats 1000000 in
theorem vmove_any (w : World) (d o : Nat) (T : TypeId) (C : Array Value) (b n : Nat) (V : ByteArray → Option Value) (s t : ByteArray) (l : List Int) (used : Int) (hst : s ≠ t) (v : Value) (hvs : (V s).getD nilS = v) (hiv : isS v = true)
    (hC : Cel w d T C) (c0 : C[o]? = some (.map (some b))) (c1 : C[o + 1]? = some (.int .i64 used)) (hM : MapV w b n V) (hs : s.size ≤ maxLen) (ht : t.size ≤ maxLen) (hv : RdB w ((V t).getD nilS) l) (hl : l.length ≤ 100000000) (hu : 0 ≤ used ∧ used ≤ 1000000000000) (hn : n < 1000000) :
    Calls Try.prog 66 #[.pointer (some ⟨d, o, none⟩), .string s, .string t] w fun e w' => e = .returned (.tuple #[]) ∧ Cel w' d T (C.setIfInBounds (o + 1) (.int .i64 (used - l.length))) ∧ MapV w' b (n + 1) (fun x => if x = s then none else if x = t then some v else V x) ∧ Fr (fun k => k = d ∨ k = b) w w' := by
  have h0 := (hC.cell o).trans c0
  have h1 := (hC.cell (o + 1)).trans c1
  have f1 := hC.fz (o + 1)
  have teq : (s.toList == t.toList) = false := by
    rw [← Bool.not_eq_true, beq_iff_eq, ByteArray.toList_eq, ByteArray.toList_eq]
    exact fun h => hst (ByteArray.ext (Array.toList_inj.1 h))
  obtain ⟨A, cap, hvf, _, _, _⟩ := hv.form
  have hlk := hM.look0 t ht
  rw [hvf] at hlk
  have hdb : d ≠ b := hC.ne_map hM
  obtain ⟨w2, hw2⟩ : ∃ w2, w.drew = w2 := ⟨_, rfl⟩
  have hC2 : Cel w2 d T C := hC.of (by rw [← hw2]; rfl)
  have hM2 : MapV w2 b n V := hM.ofBlock (by rw [← hw2]; rfl)
  have hlk2 := hM2.look0 t ht
  rw [hvf] at hlk2
  have hf2 : Fr (fun k => k = d ∨ k = b) w w2 := by rw [← hw2]; exact Fr.drew w _
  have k0 := (hC2.cell o).trans c0
  have k1 := (hC2.cell (o + 1)).trans c1
  have g1 := hC2.fz (o + 1)
  obtain ⟨w3, hw3⟩ : ∃ w3, w2.setCell ⟨d, o + 1, none⟩ (.int .i64 (used - l.length)) = w3 := ⟨_, rfl⟩
  have hC3 : Cel w3 d T (C.setIfInBounds (o + 1) (.int .i64 (used - l.length))) := by rw [← hw3]; exact hC2.set _ _
  have hM3 : MapV w3 b n V := hM2.ofBlock (by rw [← hw3]; exact Below.heap_setCell w2 ⟨d, o + 1, none⟩ _ b (fun e => hdb e.symm))
  have c03 : (C.setIfInBounds (o + 1) (.int .i64 (used - l.length)))[o]? = some (.map (some b)) := by rw [Array.getElem?_setIfInBounds]; simp [c0]
  have k03 := (hC3.cell o).trans c03
  have hf3 : Fr (fun k => k = d ∨ k = b) w2 w3 := by rw [← hw3]; exact (Fr.set w2 d (o + 1) _).mono (fun i h => .inl (.inl h))
  have hlk3 := hM3.look0 s hs
  rw [hvs] at hlk3
  obtain ⟨w4, hw4⟩ : ∃ w4, w3.drew = w4 := ⟨_, rfl⟩
  have hC4 := hC3.of (w' := w4) (by rw [← hw4]; rfl)
  have hM4 : MapV w4 b n V := hM3.ofBlock (by rw [← hw4]; rfl)
  have k04 := (hC4.cell o).trans c03
  have hlk4 := hM4.look0 s hs
  rw [hvs] at hlk4
  have hf4 : Fr (fun k => k = d ∨ k = b) w3 w4 := by rw [← hw4]; exact Fr.drew w3 _
  obtain ⟨w5, hrun5, hM5, hg5⟩ := hM4.set t ht (by unfold maxLen; omega) v hiv
  have hb5 : w5.heap[d]? = w4.heap[d]? := hg5.block d hC4.lt (fun e => hdb (by injection e))
  have hC5 := hC4.of hb5
  have k05 := (hC5.cell o).trans c03
  obtain ⟨w6, hrun6, hM6, hg6⟩ := hM5.del s hs 0
  have hb6 : w6.heap[d]? = w5.heap[d]? := hg6.block d hC5.lt (fun e => hdb (by injection e))
  clear c0 c1 hvf hvs c03
  have hwr : IntKind.i64.wrap (used - (l.length : Int)) = used - (l.length : Int) := by rw [IntKind.wrap_i64]; omega
  go_enter Try.func66, Try.ntmps66
  go_wp2_with fail
  go_still_tail 14, (by kernel_rfl)
  change wpList _ _ _ _ _ w.drew
  rw [hw2]
  go_wp2_with fail
  go_still_tail 11, (by kernel_rfl)
  change wpList _ _ _ _ _ w3.drew
  rw [hw4]
  go_wp2
  go_end0
  exact ⟨rfl, hC5.of hb6, hM6, (((hf2.trans hf3).trans hf4).trans ((Fr.grown hg5).mono (fun i h => .inl (.inr (by injection h with h; exact h.symm))))).trans ((Fr.grown hg6).mono (fun i h => .inl (.inr (by injection h with h; exact h.symm))))⟩

end Go.Proofs.Ytbdmlenapccdnaa
