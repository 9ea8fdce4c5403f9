/- Rows of bytes: slices that come in, rows of the call's own, strings of them. -/
import Derived.Test.YtfkbjniodomdjaaProg
import Derived.Test.YtfkbjniodomdjaaMem
import Derived.Lib.Hide
import Derived.Lib.AppendStr
import Derived.Laws.AppendOwn
import Derived.Laws.AppendOwnNone
import Derived.Laws.BytesArg
import Derived.Laws.IdiomStrings
import Derived.Laws.BitsAllLaws
import Derived.OwnWalk
import Derived.Shelf.Spec.RuneCount
namespace Go.Proofs.Ytfkbjniodomdjaa
open Go.RowKit

theorem infoU8 : (Try.prog.info? 5).map (fun i => (i.zero, i.size, i.bytes)) = some (some (.int .u8 0), 1, 1) := by kernel_rfl

theorem cells_new (w : World) (l : List Value) (t : TypeId) : ∀ j u, l[j]? = some u → (w.alloc (.cells l.toArray t)).cell? ((⟨w.heap.size, 0, none⟩ : Addr).add j) = some u := by
  intro j u hu
  have : (⟨w.heap.size, 0, none⟩ : Addr).add j = ⟨w.heap.size, j, none⟩ := by unfold Addr.add; split <;> simp_all
  rw [this, World.cell?_alloc_new]
  simpa using hu
theorem ints_one {k : IntKind} (l : List Int) : ∀ u ∈ l.map (Value.int k), u.oneCell' = true := by
  intro u hu
  simp at hu
  obtain ⟨z, _, rfl⟩ := hu
  rfl
theorem Rd.add {w : World} {k : IntKind} {ad : Addr} {xs : List Int} (h : Rd w k (some ad) xs) : ∀ j u, (xs.map (Value.int k))[j]? = some u → w.cell? (ad.add j) = some u := by
  intro j u hu
  rcases h with rfl | ⟨b, off, hA, hb, hc⟩
  · simp at hu
  · obtain rfl : ad = ⟨b, off, none⟩ := by injection hA
    have hj : j < xs.length := by
      rcases Nat.lt_or_ge j xs.length with hlt | hge
      · exact hlt
      · rw [List.getElem?_eq_none (by simpa using hge)] at hu; cases hu
    rw [List.getElem?_map, List.getElem?_eq_getElem hj] at hu
    have h2 := hc j hj
    rw [List.getElem?_eq_getElem hj, Option.getD_some] at h2
    simp only [Option.map_some, Option.some.injEq] at hu
    rw [← hu, ← h2]
    rcases Nat.eq_zero_or_pos j with rfl | hj0
    · simp [Addr.add]
    · simp [Addr.add, Nat.ne_of_gt hj0]
theorem Rd.own {w : World} {k : IntKind} {base : Nat} {e : TypeId} {v : Value} {n : Nat} {xs : List Int} (h : w.ownsRow base e 1 v n (xs.map (Value.int k))) : ∃ A cap, v = .slice A xs.length cap ∧ xs.length = n ∧ n ≤ cap ∧ (A = none → cap = 0) ∧ Rd w k A xs := by
  have hl : xs.length = n := by have := h.1; simpa using this
  subst hl
  have hh := h
  rcases h.2 with ⟨rfl, hn⟩ | ⟨g, cap, cur, rfl, _, hg, hnc, _⟩
  · have hx : xs = [] := List.eq_nil_of_length_eq_zero hn
    subst hx
    exact ⟨none, 0, rfl, rfl, by simp, fun _ => rfl, .inl rfl⟩
  · refine ⟨some ⟨g, 0, none⟩, cap, rfl, rfl, hnc, (fun h => by cases h), .inr ⟨g, 0, rfl, (Array.getElem?_eq_some_iff.1 hg).1, fun i hi => ?_⟩⟩
    rw [Nat.zero_add, hh.cellAt i (by omega), List.getElem?_map, List.getElem?_eq_getElem hi]
    simp
theorem str_own {P : Program} {t e u : TypeId} (ht : P.underlying t = some (.slice e)) (he : P.underlying e = some (.int .u8)) (hu : P.underlying u = some .string) {w : World} {base n : Nat} {v : Value} {E : List Int} (h : w.ownsRow base e 1 v n (E.map (Value.int .u8))) :
    (convert t u v).run P w = .ok (.string (strOfNums E)) w := by
  obtain ⟨A, cap, rfl, hl, _, _, hrd⟩ := Rd.own h
  subst hl
  cases A with
  | none =>
    have hE : E = [] := by
      rcases hrd with h | ⟨b, off, h, _⟩
      · exact h
      · cases h
    subst hE
    exact run_convert_bytes_nil w t e ht he 0 cap u hu
  | some ad =>
    rcases hrd with hE | ⟨b, off, hA, _, hc⟩
    · subst hE
      rcases h.2 with ⟨h', _⟩ | ⟨g, cap', cur, h', _⟩
      · cases h'
      · injection h' with h1 h2 h3
        cases h1
        exact run_convert_bytes_arg w t e ht he g 0 0 cap [] rfl (fun i hi => by omega) u hu
    · injection hA with hA
      subst hA
      exact run_convert_bytes_arg w t e ht he b off E.length cap E rfl (fun i hi => by rw [hc i hi]; simp) u hu
/-- append of a slice that may be nil onto an owned row -/
theorem wpList_append_rd {P : Program} {w : World} {ops : Array Oper} {rest : List Oper} {o : Oper} {a : Act} {Q : Exit → Act → World → Prop} {s x : Operand} (hgd : o.guard = none) (t : TypeId)
    (ho : o.op = .call { callee := .builtin .append, args := #[s, x], argTypes := #[t, t] })
    (base : Nat) (e : TypeId) (i : TypeInfo) (z : Value) (bytes : Nat) (ht : P.underlying t = some (.slice e)) (hi : P.info? e = some i) (hz : i.zero = some z) (hsize : i.size = 1) (hby : i.bytes = bytes)
    (v : Value) (n : Nat) (xs : List Value) (hs : a.eval s = v) (hown : w.ownsRow base e 1 v n xs)
    (A : Option Addr) (m c : Nat) (hx : a.eval x = .slice A m c) (news : List Int) (k : IntKind) (hm : news.length = m) (hrd : Rd w k A news) (hnone : A = none → c = 0) (hzs : z.cells.size = 1)
    (h63 : n + m ≤ maxLen) (hbytes : (n + m) * bytes ≤ 140737488355328) (hbase : base ≤ w.heap.size)
    (h : ∀ v' w', w'.ownsRow base e 1 v' (n + m) (xs ++ news.map (Value.int k)) → w.grownBy w' v.ownBlock → wpList P ops Q rest (a.put o.dst v') w') : wpList P ops Q (o :: rest) a w := by
  cases A with
  | none =>
    have hn : news = [] := by
      rcases hrd with h | ⟨b, off, h, _⟩
      · exact h
      · cases h
    subst hn
    obtain rfl : m = 0 := by simpa using hm.symm
    obtain rfl : c = 0 := hnone rfl
    exact wpList_append_own_none hgd s x t ho base e i 1 ht hi v n xs hs hown hx (h v w (by simpa using hown) ⟨rfl, rfl, rfl, Nat.le_refl _, fun _ _ _ => rfl⟩)
  | some ad =>
    exact wpList_append_own w hgd s x t ho base e i z 1 bytes ht hi hz hsize hby hzs (by decide) v n xs hs hown ad m c (news.map (Value.int k)) hx (by simp [hm]) hrd.add (ints_one news) h63 hbytes hbase (fun v' w' h1 h2 _ => h v' w' h1 h2)

theorem own_keep {w w' : World} {base sz n : Nat} {e : TypeId} {v : Value} {xs : List Value} (h : w.ownsRow base e sz v n xs) (hb : Below w.heap.size w w') : w'.ownsRow base e sz v n xs :=
  h.kept (row := none) ⟨hb.os, hb.tape, hb.output, hb.size, fun k hk _ => hb.block k hk⟩ (by cases v.ownBlock <;> simp)
theorem own_far {w w' : World} {base sz n : Nat} {e : TypeId} {v : Value} {xs : List Value} {row : Option Nat} (h : w.ownsRow base e sz v n xs) (hg : w.grownBy w' row) (hne : ∀ g, v.ownBlock = some g → row = some g → False) : w'.ownsRow base e sz v n xs :=
  h.kept hg (by
    cases hv : v.ownBlock with
    | none => exact .inl rfl
    | some g => exact .inr (fun e => hne g hv e.symm))

/-- a string's bytes as numbers -/
def bs (s : ByteArray) : List Int := s.data.toList.map fun c => (c.toNat : Int)
theorem bs_len (s : ByteArray) : (bs s).length = s.size := by simp [bs]
theorem bs_rng (s : ByteArray) : ∀ x ∈ bs s, 0 ≤ x ∧ x ≤ 255 := by
  intro x hx
  simp only [bs, List.mem_map] at hx
  obtain ⟨c, _, rfl⟩ := hx
  have := c.toNat_lt
  omega
theorem bs_str {E : List Int} (h : ∀ x ∈ E, 0 ≤ x ∧ x ≤ 255) : bs (strOfNums E) = E := by
  unfold bs
  rw [strOfNums_data, List.map_map]
  conv => rhs; rw [← List.map_id E]
  refine List.map_congr_left fun x hx => ?_
  have := h x hx
  simp
  omega
theorem str_bs (s : ByteArray) : strOfNums (bs s) = s := strOfNums_bytes s
theorem str_inj {E F : List Int} (hE : ∀ x ∈ E, 0 ≤ x ∧ x ≤ 255) (hF : ∀ x ∈ F, 0 ≤ x ∧ x ≤ 255) (h : strOfNums E = strOfNums F) : E = F := by
  rw [← bs_str hE, ← bs_str hF, h]
theorem bs_inj {s t : ByteArray} (h : bs s = bs t) : s = t := by rw [← str_bs s, ← str_bs t, h]
theorem bs_get (s : ByteArray) (k : Nat) (h : k < s.size) : (bs s)[k]? = some ((s[k]'h).toNat : Int) := by
  unfold bs
  rw [List.getElem?_map, List.getElem?_eq_getElem (by simpa using h)]
  rfl
theorem bs_drop (s : ByteArray) (k : Nat) (h : k < s.size) : (bs s).drop k = ((s[k]'h).toNat : Int) :: (bs s).drop (k + 1) := by
  have hl : k < (bs s).length := by rw [bs_len]; exact h
  rw [List.drop_eq_getElem_cons hl]
  congr 1
  have := bs_get s k h
  rw [List.getElem?_eq_getElem hl] at this
  exact Option.some.inj this
theorem bs_cells (s : ByteArray) : Lib.strCells s = (bs s).map (Value.int .u8) := by
  simp [Lib.strCells, bs]

end Go.Proofs.Ytfkbjniodomdjaa
