/- DiskRuns: the loop that turns the bytes of its own. DiskRuns, the third piece: Write. DiskRuns, the third piece: Read. DiskRuns: the loop that holds the names against the law's files. DiskRuns, the last piece: what the disk tells is what the law has. DiskRuns: the loop that does again what waits. DiskRuns, the third piece: Crash: what stands behind the loop. DiskRuns, the third piece: Crash. DiskRuns, the third piece: Crash, whole. -/
import Derived.Test.YtbdmlenapccdnaaJoin10
import Derived.Deep.DeepCutAuto
import Derived.Deep.CutBlock
import Derived.Deep.QuietTactic
import Derived.BigQuiet
namespace Go.Proofs.Ytbdmlenapccdnaa
open Go.RowKit

noncomputable def px4 : Code := sub [1, 2, 1, 4, 1, 4, 1, 4, 1, 4, 1, 3, 1, 1, 1, 1] pC
noncomputable def px0 : Code := sub [1, 2, 1, 3, 1, 1, 1] pC
/-- the slots that the pieces hand on -/
def same (t t' : Array Value) : Prop := t'.getD 7 undef = t.getD 7 undef ∧ t'.getD 8 undef = t.getD 8 undef ∧ t'.getD 9 undef = t.getD 9 undef ∧ t'.getD 10 undef = t.getD 10 undef ∧ t'.getD 11 undef = t.getD 11 undef ∧ t'.getD 12 undef = t.getD 12 undef ∧ t'.getD 13 undef = t.getD 13 undef ∧ t'.getD 14 undef = t.getD 14 undef ∧ t'.getD 15 undef = t.getD 15 undef ∧ t'.getD 18 undef = t.getD 18 undef
/-- N bytes lie there, to be written -/
def Byt (W : World) (g N : Nat) : Prop := ∀ i, i < N → (∃ x, W.cell? ⟨g, i, none⟩ = some (.int .u8 x)) ∧ W.frozen? ⟨g, i, none⟩ = false
theorem Byt.set {W : World} {g N k : Nat} {y : Int} (h : Byt W g N) : Byt (W.setCell ⟨g, k, none⟩ (.int .u8 y)) g N := by
  intro i hi
  obtain ⟨⟨x, hx⟩, hf⟩ := h i hi
  refine ⟨?_, by rw [World.frozen?_setCell]; exact hf⟩
  by_cases e : i = k
  · subst e
    exact ⟨y, World.cell?_setCell_same' W _ _ (by rw [hx]; rfl)⟩
  · exact ⟨x, (World.cell?_setCell_other W _ _ _ (by intro h; injection h with h1 h2; omega)).trans hx⟩
structure Xin (room most : Int) (O : Option Addr) (n co d : Nat) (t0 : Array Value) (g c N : Nat) (I : World → Prop) (F : Nat → Value) (k : Nat) (W : World) : Prop where
  e7 : F 7 = t0.getD 7 undef
  e8 : F 8 = t0.getD 8 undef
  e9 : F 9 = t0.getD 9 undef
  e10 : F 10 = t0.getD 10 undef
  e11 : F 11 = t0.getD 11 undef
  e12 : F 12 = t0.getD 12 undef
  e13 : F 13 = t0.getD 13 undef
  e14 : F 14 = t0.getD 14 undef
  e15 : F 15 = t0.getD 15 undef
  e18 : F 18 = t0.getD 18 undef
  hk : k ≤ N
  own : Byt W g N
  inv : I W

def XI (sv sl si : Nat) (room most : Int) (O : Option Addr) (n co d : Nat) (t0 : Array Value) (V : Option Addr) (g c N : Nat) (I : World → Prop) (a : Act) (W' : World) : Prop :=
  ∃ F k, a = ⟨frm room most O n co d F, []⟩ ∧ F sv = .slice V N c ∧ F sl = .int .i64 N ∧ F si = .int .i64 (k : Nat) ∧ Xin room most O n co d t0 g c N I F k W'
theorem XI_mk {sv sl si : Nat} {room most : Int} {O : Option Addr} {n co d : Nat} {t0 : Array Value} {V : Option Addr} {g c N : Nat} {I : World → Prop} {F : Nat → Value} {k : Nat} {W W' : World} (h : Xin room most O n co d t0 g c N I F k W) {t : Array Value} (hs : slots room most O n co d t) (e1 : t.getD sv undef = .slice V N c) (e2 : t.getD sl undef = .int .i64 N) (e3 : t.getD si undef = .int .i64 ((k + 1 : Nat) : Int)) (hk : k + 1 ≤ N)
    (t7 : t.getD 7 undef = F 7) (t8 : t.getD 8 undef = F 8) (t9 : t.getD 9 undef = F 9) (t10 : t.getD 10 undef = F 10) (t11 : t.getD 11 undef = F 11) (t12 : t.getD 12 undef = F 12) (t13 : t.getD 13 undef = F 13) (t14 : t.getD 14 undef = F 14) (t15 : t.getD 15 undef = F 15) (t18 : t.getD 18 undef = F 18)
    (ho : Byt W' g N) (hI : I W') : XI sv sl si room most O n co d t0 V g c N I ⟨t, []⟩ W' :=
  ⟨fun k => t.getD k undef, k + 1, by rw [← frm_of hs], e1, e2, e3, ⟨t7.trans h.e7, t8.trans h.e8, t9.trans h.e9, t10.trans h.e10, t11.trans h.e11, t12.trans h.e12, t13.trans h.e13, t14.trans h.e14, t15.trans h.e15, t18.trans h.e18, hk, ho, hI⟩⟩
set_option maxRecDepth 100000 in
set_option maxHeartbeats 2000000 in
theorem xor0 (Qx : Exit → Act → World → Prop) (room most : Int) (O : Option Addr) (n co d : Nat) (t0 : Array Value) (V : Option Addr) (g c N : Nat) (I : World → Prop) (W : World) (hN : N ≤ 1000000000) (hs : slots room most O n co d t0) (e19 : t0.getD 19 undef = .slice V N c) (e210 : t0.getD 210 undef = .int .i64 N) (e211 : t0.getD 211 undef = .int .i64 0)
    (hown : Byt W g N) (hA : 0 < N → V = some ⟨g, 0, none⟩) (hI : I W) (hst : 0 < N → ∀ W' i v, I W' → I (W'.setCell ⟨g, i, none⟩ v))
    (hQ : ∀ t' W', slots room most O n co d t' → same t0 t' → I W' → Qx .normal ⟨t', []⟩ W') :
    Code.wp Try.prog px0 Qx ⟨t0, []⟩ W := by
  have HQ := Lib.hid hQ
  have HST := Lib.hid hst
  clear hQ hst
  conv => arg 2; whnf
  refine wp_block ?_
  refine wp_loop (XI 19 210 211 room most O n co d t0 V g c N I) (fun a _ => N - (intOf (a.tmps.getD 211 undef)).toNat) ?_ ?_
  · exact ⟨fun k => t0.getD k undef, 0, by rw [← frm_of hs], e19, e210, e211, ⟨rfl, rfl, rfl, rfl, rfl, rfl, rfl, rfl, rfl, rfl, Nat.zero_le _, hown, hI⟩⟩
  · rintro a W' ⟨F, k, rfl, f19, f210, f211, hX⟩
    have ho := hX.own
    have HX := Lib.hid hX
    have hk := hX.hk
    clear hX
    by_cases hlt : k < N
    · have hl1 : decide ((k : Int) < (N : Int)) = true := by simp; omega
      obtain ⟨⟨x, hx⟩, hfz⟩ := ho k hlt
      obtain rfl := hA (by omega)
      have F19 := Lib.hid f19
      have F210 := Lib.hid f210
      unfold frm
      rw [f19, f210, f211]
      clear f19 f210 f211
      go_wp2
      exact ⟨XI_mk HX.out ⟨rfl, rfl, rfl, rfl, rfl⟩ rfl rfl (by show Value.int .i64 ((k : Int) + 1) = _; go_num) hlt rfl rfl rfl rfl rfl rfl rfl rfl rfl rfl ho.set (HST.out (by omega) _ _ _ HX.out.inv), meas hlt⟩
    · have hl1 : decide ((k : Int) < (N : Int)) = false := by simp; omega
      unfold frm
      rw [f19, f210, f211]
      clear f19 f210 f211
      go_wp2
      have h := HX.out
      exact HQ.out _ _ ⟨rfl, rfl, rfl, rfl, rfl⟩ ⟨h.e7, h.e8, h.e9, h.e10, h.e11, h.e12, h.e13, h.e14, h.e15, h.e18⟩ h.inv

set_option maxRecDepth 100000 in
set_option maxHeartbeats 2000000 in
theorem xor4 (Qx : Exit → Act → World → Prop) (room most : Int) (O : Option Addr) (n co d : Nat) (t0 : Array Value) (V : Option Addr) (g c N : Nat) (I : World → Prop) (W : World) (hN : N ≤ 1000000000) (hs : slots room most O n co d t0) (e21 : t0.getD 21 undef = .slice V N c) (e270 : t0.getD 270 undef = .int .i64 N) (e271 : t0.getD 271 undef = .int .i64 0)
    (hown : Byt W g N) (hA : 0 < N → V = some ⟨g, 0, none⟩) (hI : I W) (hst : 0 < N → ∀ W' i v, I W' → I (W'.setCell ⟨g, i, none⟩ v))
    (hQ : ∀ t' W', slots room most O n co d t' → same t0 t' → I W' → Qx .normal ⟨t', []⟩ W') :
    Code.wp Try.prog px4 Qx ⟨t0, []⟩ W := by
  have HQ := Lib.hid hQ
  have HST := Lib.hid hst
  clear hQ hst
  conv => arg 2; whnf
  refine wp_block ?_
  refine wp_loop (XI 21 270 271 room most O n co d t0 V g c N I) (fun a _ => N - (intOf (a.tmps.getD 271 undef)).toNat) ?_ ?_
  · exact ⟨fun k => t0.getD k undef, 0, by rw [← frm_of hs], e21, e270, e271, ⟨rfl, rfl, rfl, rfl, rfl, rfl, rfl, rfl, rfl, rfl, Nat.zero_le _, hown, hI⟩⟩
  · rintro a W' ⟨F, k, rfl, f21, f270, f271, hX⟩
    have ho := hX.own
    have HX := Lib.hid hX
    have hk := hX.hk
    clear hX
    by_cases hlt : k < N
    · have hl1 : decide ((k : Int) < (N : Int)) = true := by simp; omega
      obtain ⟨⟨x, hx⟩, hfz⟩ := ho k hlt
      obtain rfl := hA (by omega)
      have F21 := Lib.hid f21
      have F270 := Lib.hid f270
      unfold frm
      rw [f21, f270, f271]
      clear f21 f270 f271
      go_wp2
      exact ⟨XI_mk HX.out ⟨rfl, rfl, rfl, rfl, rfl⟩ rfl rfl (by show Value.int .i64 ((k : Int) + 1) = _; go_num) hlt rfl rfl rfl rfl rfl rfl rfl rfl rfl rfl ho.set (HST.out (by omega) _ _ _ HX.out.inv), meas hlt⟩
    · have hl1 : decide ((k : Int) < (N : Int)) = false := by simp; omega
      unfold frm
      rw [f21, f270, f271]
      clear f21 f270 f271
      go_wp2
      have h := HX.out
      exact HQ.out _ _ ⟨rfl, rfl, rfl, rfl, rfl⟩ ⟨h.e7, h.e8, h.e9, h.e10, h.e11, h.e12, h.e13, h.e14, h.e15, h.e18⟩ h.inv

end Go.Proofs.Ytbdmlenapccdnaa
namespace Go.Proofs.Ytbdmlenapccdnaa
open Go.RowKit

theorem infoB8 : (Try.prog.info? 5).map (fun i => (i.zero, i.size, i.bytes)) = some (some (.int .u8 0), 1, 1) := by kernel_rfl
theorem own_byt {W : World} {B g c N : Nat} {l : List Int} (h : W.ownsRow B 5 1 (.slice (some ⟨g, 0, none⟩) N c) N (l.map (Value.int .u8))) : Byt W g N := by
  have hl : l.length = N := by have := h.1; simpa using this
  intro i hi
  refine ⟨?_, h.frozenAt _⟩
  rw [h.cellAt i (by omega), List.getElem?_map, List.getElem?_eq_getElem (by omega)]
  exact ⟨_, rfl⟩

theorem own_or {W : World} {B N c : Nat} {V : Option Addr} {l : List Int} (h : W.ownsRow B 5 1 (.slice V l.length c) N (l.map (Value.int .u8))) (hB : B < W.heap.size := by assumption) : ∃ g, (B ≤ g ∧ g < W.heap.size) ∧ (0 < l.length → V = some ⟨g, 0, none⟩) ∧ Byt W g l.length := by
  have hl : l.length = N := by have := h.1; simpa using this
  rcases h.2 with ⟨e, hn⟩ | ⟨g, cap, cur, e, hb, hg, _⟩
  · exact ⟨B, ⟨Nat.le_refl _, hB⟩, fun h => by omega, fun i hi => by omega⟩
  · injection e with e1 e2 e3
    subst e1
    subst e3
    refine ⟨g, ⟨hb, (Array.getElem?_eq_some_iff.1 hg).1⟩, fun _ => rfl, ?_⟩
    rw [← hl] at h
    exact own_byt h

set_option maxRecDepth 100000 in
set_option maxHeartbeats 2000000 in
theorem sgC_0 (Qx : Exit → Act → World → Prop) (room : Int) (O : Option Addr) (n co d m : Nat) (F : Nat → Value) (w1 W : World) (Q : Nat → Prop) (ob gn cn gs cs : Nat) (v9 : Value) (o : OpV) (A : Ab) (wt : List OpV) (h : HypC w1 Q F W d m ob gn cn gs cs v9 o A wt) (hk : o.k = 0) :
    Code.wp Try.prog pC (Exit.then (IC room A.room O n co d m F w1 o A wt) Qx) ⟨frm room A.room O n co d F, []⟩ W := by
  obtain ⟨i0, hi, hz⟩ : ∃ i0, Try.prog.info? 5 = some i0 ∧ (i0.zero, i0.size, i0.bytes) = (some (.int .u8 0), 1, 1) := Option.map_eq_some_iff.1 infoB8
  obtain ⟨hz0, hz1, hz2⟩ : i0.zero = some (.int .u8 0) ∧ i0.size = 1 ∧ i0.bytes = 1 := by simpa using hz
  have x0 := h.hC.cell 0
  have x1 := h.hC.cell 1
  have x3 := h.hC.cell 3
  simp [opCells] at x0 x1 x3
  rw [hk] at x0
  have ha : A1 A o = (wrA A o.s o.b).1 ∧ want2 A o = (wrA A o.s o.b).2 := by unfold A1 want2; simp [hk]
  have HA := Lib.hid ha
  have HH := Lib.hid h
  have HK := Lib.hid hk
  have hob := h.hC.lt
  have hbl := h.hb
  have hrd : Rd (W.alloc (.cells #[] 5)) .u8 o.A o.b := (h.hok.rd.fr h.many.fr).fr (Fr.alloc _ _ _)
  have hnl := h.hok.nl
  have hx3 : (W.alloc (.cells #[] 5)).cell? ⟨ob, 3, none⟩ = some (.slice o.A o.b.length o.c) := (World.cell?_of_block (Below.heap_alloc _ _ _ hob)).trans x3
  have e14 := h.e14
  have e18 := h.e18
  unfold frm
  rw [e14, e18]
  clear e14 e18 hk h ha hz
  conv => arg 2; whnf
  go_wp2_with (at_builtin; refine wpList_append_rd rfl 28 rfl W.heap.size 5 i0 (.int .u8 0) 1 Try.underlying28 hi hz0 hz1 hz2 (.slice (some ⟨W.heap.size, 0, none⟩) 0 0) 0 [] rfl (World.ownsRow_lit W #[] 0 (Nat.le_refl _) (by decide) rfl) o.A o.b.length o.c rfl o.b .u8 rfl hrd hnl rfl (by unfold maxLen; omega) (by omega) (by simp) ?_; intro v3 w3 hown3 hg3; simp only [List.nil_append, Nat.zero_add] at hown3; have hf3 : Fr (fun _ => False) W w3 := app_fr1 hg3 rfl rfl rfl rfl (fun k e => (by cases e; simp)); obtain ⟨A3, c3, hv3, hl3, hc3, hn3, hrd3⟩ := Rd.own hown3; subst hv3; have hb3 := own_or hown3 (by have := hg3.size; simp at this; omega); have y1 : w3.cell? ⟨ob, 1, none⟩ = some (.string o.s) := (World.cell?_of_block (hf3.block ob hob (fun h => h))).trans x1)
  have kW := Lib.hid (Write_many (HH.out.many.new hf3) (i := 0) (by omega) o.s A3 c3 o.b HH.out.hok.ss hrd3 hn3 (by have := HH.out.hm; omega))
  clear hown3 hg3 hrd3 hl3 hc3
  go_wp2_with fail
  refine kW.out.mono ?_
  rintro e w5 ⟨rfl, h5, q5⟩
  have h5' := h5.one
  rw [← HA.out.1] at h5'
  rw [← HA.out.2]
  clear h5
  obtain ⟨g3, hg3, hA3, hB3⟩ := hb3
  have hm := Lib.hid (HH.out.many)
  have hs3 := hf3.size
  go_upto_block 4 with fail
  refine xor0 _ room A.room O n co d _ A3 g3 c3 o.b.length (fun W' => Lw w1 W' Q (A1 A o) (wait1 A o wt) gn cn gs cs v9 ∧ Mny w1 W' (fun k => Q k ∨ (W.heap.size ≤ k ∧ k < w3.heap.size)) 1 (fun _ => d) (m + 1) (fun _ => A1 A o) ∧ ∀ k, Q k → W'.heap[k]? = W.heap[k]?) w5 (by omega) ⟨rfl, rfl, rfl, rfl, rfl⟩ rfl rfl rfl ?_ hA3 ?_ ?_ ?_
  · intro i hi
    obtain ⟨⟨x, hx⟩, hf⟩ := hB3 i hi
    have hb := q5 g3 (.inr hg3)
    exact ⟨⟨x, (World.cell?_of_block hb).trans hx⟩, by rw [← hf]; unfold World.frozen?; simp only [hb]⟩
  · have hq : ∀ k, Q k → w5.heap[k]? = W.heap[k]? := fun k hk => (q5 k (.inl hk)).trans (hf3.block k (hm.out.lt hk) (fun h => h))
    exact ⟨HH.out.law.blk hq, h5', hq⟩
  · rintro _ W' i v ⟨h1, h2, h3⟩
    have hne : ∀ k, Q k → (W'.setCell ⟨g3, i, none⟩ v).heap[k]? = W'.heap[k]? := fun k hk => Below.heap_setCell W' ⟨g3, i, none⟩ v k (by have := hm.out.lt hk; show k ≠ g3; omega)
    refine ⟨h1.blk hne, h2.turn (Fr.set W' g3 i v) (fun k e => .inr (by rw [e]; exact hg3)) (fun k e => by rw [e]; exact Nat.le_trans hm.out.fr.size hg3.1), fun k hk => (hne k hk).trans (h3 k hk)⟩
  · rintro t' W' hs' ⟨s7, s8, s9, s10, s11, s12, s13, s14, s15, s18⟩ ⟨h1, h2, h3⟩
    exact IC_done HH.out (by rw [HK.out]; decide) (by rw [HK.out]; decide) (h2.sub (fun k hk => .inl hk)) h3 hs' s7 s8 s9 s10 s11 s12 s13 s15 s18

end Go.Proofs.Ytbdmlenapccdnaa
namespace Go.Proofs.Ytbdmlenapccdnaa
open Go.RowKit

/-- what is read is what the law wants -/
theorem rd_want {A : Ab} {o : OpV} (hk : o.k = 4) : (rdA A o.s).2 = want2 A o ∧ A1 A o = A ∧ ((rdA A o.s).2 = 0 → (rdA A o.s).1 = (lk A.now o.s).getD []) ∧ ((rdA A o.s).2 ≠ 0 → (rdA A o.s).1 = []) := by
  have h1 : A1 A o = A := by simp [A1, hk]
  have h2 : want2 A o = want1 A o := by simp [want2, hk]
  rw [h1, h2]
  simp only [want1, rdA, hk, readyR1]
  cases hn : Dx.name o.s <;> cases ho : A.off <;> simp
  cases hl : lk A.now o.s <;> simp

theorem rdb_byt {W : World} {B0 c : Nat} {V : Option Addr} {l : List Int} (h : RdB W (.slice V l.length c) l) (hge : ∀ g, (Value.slice V l.length c).ownBlock = some g → B0 ≤ g) : ∃ g, (0 < l.length → B0 ≤ g ∧ g < W.heap.size) ∧ (0 < l.length → V = some ⟨g, 0, none⟩) ∧ Byt W g l.length := by
  rcases h with ⟨_, rfl⟩ | ⟨g, cap, cur, e, hg, h1, h2, h3, h4⟩
  · exact ⟨0, fun h => by simp at h, fun h => by simp at h, fun i hi => by simp at hi⟩
  · injection e with e1 e2 e3
    subst e1
    refine ⟨g, fun _ => ⟨hge g rfl, (Array.getElem?_eq_some_iff.1 hg).1⟩, fun _ => rfl, fun i hi => ⟨?_, ?_⟩⟩
    · have h5 : (cur.toList.take l.length)[i]? = some (.int .u8 (l[i]?.getD 0)) := by
        rw [h4, List.getElem?_map, List.getElem?_eq_getElem hi]; rfl
      rw [List.getElem?_take, if_pos hi, Array.getElem?_toList] at h5
      exact ⟨_, by simp only [World.cell?, hg]; simpa using h5⟩
    · have : Cel W g 5 cur := hg
      exact this.fz i

set_option maxRecDepth 100000 in
set_option maxHeartbeats 2000000 in
theorem sgC_4 (Qx : Exit → Act → World → Prop) (room : Int) (O : Option Addr) (n co d m : Nat) (F : Nat → Value) (w1 W : World) (Q : Nat → Prop) (ob gn cn gs cs : Nat) (v9 : Value) (o : OpV) (A : Ab) (wt : List OpV) (h : HypC w1 Q F W d m ob gn cn gs cs v9 o A wt) (hk : o.k = 4) (hl0 : A.now.length ≤ 1000000) (hu0 : used A.now ≤ 16777216) :
    Code.wp Try.prog pC (Exit.then (IC room A.room O n co d m F w1 o A wt) Qx) ⟨frm room A.room O n co d F, []⟩ W := by
  have x0 := h.hC.cell 0
  have x1 := h.hC.cell 1
  simp [opCells] at x0 x1
  rw [hk] at x0
  have hw := rd_want (A := A) hk
  have kR := Lib.hid (Read_many h.many (i := 0) (by omega) o.s h.hok.ss)
  have HW := Lib.hid hw
  have HH := Lib.hid h
  have HK := Lib.hid hk
  have hm := Lib.hid h.many
  have law := Lib.hid h.law
  have hob := h.hC.lt
  have e7 := h.e7
  have e14 := h.e14
  have e18 := h.e18
  rw [hw.2.1] at e7
  have E7x := Lib.hid (show Value.slice (some ⟨gn, 0, none⟩) A.now.length cn = F 7 from e7.symm)
  have E14 := Lib.hid e14
  unfold frm
  rw [e7, e14, e18]
  clear e7 e14 e18 hk h hw
  conv => arg 2; whnf
  go_wp2_with fail
  refine kR.out.mono ?_
  rintro e w5 ⟨B, c, rfl, hr, hge, hf5⟩
  obtain ⟨l, hl⟩ : ∃ l, (rdA A o.s).1 = l := ⟨_, rfl⟩
  obtain ⟨cd, hcd⟩ : ∃ cd, (rdA A o.s).2 = cd := ⟨_, rfl⟩
  rw [hl, hcd]
  rw [hl] at hr hge
  have HL := Lib.hid hl
  have HCD := Lib.hid hcd
  clear hl hcd
  obtain ⟨g3, hg3, hA3, hB3⟩ := rdb_byt hr hge
  have hq : ∀ k, Q k → w5.heap[k]? = W.heap[k]? := fun k hk => hf5.block k (hm.out.lt hk) (fun h => h)
  have h5 : Mny w1 w5 (fun k => Q k ∨ (W.heap.size ≤ k ∧ k < w5.heap.size)) 1 (fun _ => d) (m + 1) (fun _ => A1 A o) := by
    rw [HW.out.2.1]
    exact (hm.out.new hf5).le (Nat.le_succ _)
  have hN5 : FlV w5 gn cn A.now := by
    have := law.out.now.fr hf5 (fun h => h)
    rw [HW.out.2.1] at this
    exact this
  have hll : l.length ≤ 1000000000 := by
    rw [← HL.out]
    by_cases hc : (rdA A o.s).2 = 0
    · rw [HW.out.2.2.1 hc]
      have := lk_used A.now o.s
      omega
    · rw [HW.out.2.2.2 hc]
      simp
  have y1 : w5.cell? ⟨ob, 1, none⟩ = some (.string o.s) := (World.cell?_of_block (hf5.block ob hob (fun h => h))).trans x1
  have HG := Lib.hid hge
  have HQ5 := Lib.hid hq
  have HB := Lib.hid hB3
  clear hge hq x0 x1 hB3
  go_upto_region 60 with fail
  by_cases hc : cd = 0
  · have hd0 : (cd == 0) = true := by simpa using hc
    have hd1 : (cd != 0) = false := by simpa using hc
    have hls : (lk A.now o.s).getD [] = l := by rw [← HL.out]; exact (HW.out.2.2.1 (by rw [HCD.out]; exact hc)).symm
    have kv := fun n => conv_rdb (hr.fr (Fr.drewN w5 n (fun _ => False)) (fun _ _ h => h))
    have kr := Lib.hid (fun n => read_any (w5.drewN n) gn cn A.now o.s (hN5.fr (Fr.drewN w5 n (fun _ => False)) (fun h => h)) hl0)
    rw [hls] at kr
    have ts := str_self (strOfNums l)
    have ts2 : ((strOfNums l).toList != (strOfNums l).toList) = false := by simp
    clear hc hls
    go_quiet ((go_at_call 18; exact Calls.quiet_of (kr.out _)))
    have h5' := h5.keep (Fr.drewN w5 nq (fun _ => False))
    have hq' : ∀ k, Q k → (w5.drewN nq).heap[k]? = W.heap[k]? := HQ5.out
    go_upto_block 6 with fail
    refine xor4 _ room A.room O n co d _ B g3 c l.length (fun W' => Lw w1 W' Q (A1 A o) (wait1 A o wt) gn cn gs cs v9 ∧ Mny w1 W' (fun k => Q k ∨ (W.heap.size ≤ k ∧ k < w5.heap.size)) 1 (fun _ => d) (m + 1) (fun _ => A1 A o) ∧ ∀ k, Q k → W'.heap[k]? = W.heap[k]?) _ hll ⟨rfl, rfl, rfl, rfl, rfl⟩ rfl rfl rfl HB.out hA3 ⟨HH.out.law.blk hq', h5', hq'⟩ ?_ ?_
    · rintro hpos W' i v ⟨h1, h2, h3⟩
      have hg3 := hg3 hpos
      have hne : ∀ k, Q k → (W'.setCell ⟨g3, i, none⟩ v).heap[k]? = W'.heap[k]? := fun k hk => Below.heap_setCell W' ⟨g3, i, none⟩ v k (by have := hm.out.lt hk; show k ≠ g3; omega)
      refine ⟨h1.blk hne, h2.turn (Fr.set W' g3 i v) (fun k e => .inr (by rw [e]; exact hg3)) (fun k e => by rw [e]; exact Nat.le_trans hm.out.fr.size hg3.1), fun k hk => (hne k hk).trans (h3 k hk)⟩
    · rintro t' W' hs' ⟨s7, s8, s9, s10, s11, s12, s13, s14, s15, s18⟩ ⟨h1, h2, h3⟩
      exact IC_done HH.out (by rw [HK.out]; decide) (by rw [HK.out]; decide) (h2.sub (fun k hk => .inl hk)) h3 hs' (s7.trans E7x.out) s8 s9 s10 s11 s12 s13 s15 (s18.trans (by rw [← HW.out.1, HCD.out]; rfl))
  · have hd0 : (cd == 0) = false := by simpa using hc
    have hd1 : (cd != 0) = true := by simpa using hc
    obtain rfl : l = [] := by rw [← HL.out]; exact HW.out.2.2.2 (by rw [HCD.out]; exact hc)
    clear hc
    go_quiet (fail)
    have h5' := h5.keep (Fr.drewN w5 nq (fun _ => False))
    have hq' : ∀ k, Q k → (w5.drewN nq).heap[k]? = W.heap[k]? := HQ5.out
    go_upto_block 6 with fail
    refine xor4 _ room A.room O n co d _ B g3 c 0 (fun W' => Lw w1 W' Q (A1 A o) (wait1 A o wt) gn cn gs cs v9 ∧ Mny w1 W' (fun k => Q k ∨ (W.heap.size ≤ k ∧ k < w5.heap.size)) 1 (fun _ => d) (m + 1) (fun _ => A1 A o) ∧ ∀ k, Q k → W'.heap[k]? = W.heap[k]?) _ (by omega) ⟨rfl, rfl, rfl, rfl, rfl⟩ rfl rfl rfl HB.out hA3 ⟨HH.out.law.blk hq', h5', hq'⟩ ?_ ?_
    · rintro hpos W' i v ⟨h1, h2, h3⟩
      have hg3 := hg3 hpos
      have hne : ∀ k, Q k → (W'.setCell ⟨g3, i, none⟩ v).heap[k]? = W'.heap[k]? := fun k hk => Below.heap_setCell W' ⟨g3, i, none⟩ v k (by have := hm.out.lt hk; show k ≠ g3; omega)
      refine ⟨h1.blk hne, h2.turn (Fr.set W' g3 i v) (fun k e => .inr (by rw [e]; exact hg3)) (fun k e => by rw [e]; exact Nat.le_trans hm.out.fr.size hg3.1), fun k hk => (hne k hk).trans (h3 k hk)⟩
    · rintro t' W' hs' ⟨s7, s8, s9, s10, s11, s12, s13, s14, s15, s18⟩ ⟨h1, h2, h3⟩
      exact IC_done HH.out (by rw [HK.out]; decide) (by rw [HK.out]; decide) (h2.sub (fun k hk => .inl hk)) h3 hs' (s7.trans E7x.out) s8 s9 s10 s11 s12 s13 s15 (s18.trans (by rw [← HW.out.1, HCD.out]; rfl))

end Go.Proofs.Ytbdmlenapccdnaa
namespace Go.Proofs.Ytbdmlenapccdnaa
open Go.RowKit

noncomputable def p10 : Code := sub [1, 1, 1, 1, 1] pD
/-- the slots that a round hands on -/
def sameR (t t' : Array Value) : Prop := t'.getD 7 undef = t.getD 7 undef ∧ t'.getD 8 undef = t.getD 8 undef ∧ t'.getD 9 undef = t.getD 9 undef ∧ t'.getD 10 undef = t.getD 10 undef ∧ t'.getD 11 undef = t.getD 11 undef ∧ t'.getD 12 undef = t.getD 12 undef ∧ t'.getD 13 undef = t.getD 13 undef
def NI (room most : Int) (O : Option Addr) (n co d : Nat) (t0 : Array Value) (X : Option Addr) (c gn cn : Nat) (L : Fl) (W : World) (a : Act) (W' : World) : Prop :=
  ∃ F k, a = ⟨frm room most O n co d F, []⟩ ∧ F 28 = .slice X L.length c ∧ F 397 = .int .i64 (L.length : Nat) ∧ F 398 = .int .i64 (k : Nat) ∧ F 7 = .slice (some ⟨gn, 0, none⟩) L.length cn ∧ F 8 = t0.getD 8 undef ∧ F 9 = t0.getD 9 undef ∧ F 10 = t0.getD 10 undef ∧ F 11 = t0.getD 11 undef ∧ F 12 = t0.getD 12 undef ∧ F 13 = t0.getD 13 undef ∧ k ≤ L.length ∧ ∃ q, W' = W.drewN q
theorem NI_mk {room most : Int} {O : Option Addr} {n co d : Nat} {t0 : Array Value} {X : Option Addr} {c gn cn : Nat} {L : Fl} {W W' : World} {F : Nat → Value} {k : Nat} {t : Array Value} (hs : slots room most O n co d t) (e28 : t.getD 28 undef = .slice X L.length c) (e397 : t.getD 397 undef = .int .i64 (L.length : Nat)) (e398 : t.getD 398 undef = .int .i64 ((k + 1 : Nat) : Int)) (e7 : t.getD 7 undef = .slice (some ⟨gn, 0, none⟩) L.length cn)
    (t8 : t.getD 8 undef = F 8) (t9 : t.getD 9 undef = F 9) (t10 : t.getD 10 undef = F 10) (t11 : t.getD 11 undef = F 11) (t12 : t.getD 12 undef = F 12) (t13 : t.getD 13 undef = F 13) (f : F 8 = t0.getD 8 undef ∧ F 9 = t0.getD 9 undef ∧ F 10 = t0.getD 10 undef ∧ F 11 = t0.getD 11 undef ∧ F 12 = t0.getD 12 undef ∧ F 13 = t0.getD 13 undef) (hk : k + 1 ≤ L.length) (hq : ∃ q, W' = W.drewN q) : NI room most O n co d t0 X c gn cn L W ⟨t, []⟩ W' :=
  ⟨fun k => t.getD k undef, k + 1, by rw [← frm_of hs], e28, e397, e398, e7, t8.trans f.1, t9.trans f.2.1, t10.trans f.2.2.1, t11.trans f.2.2.2.1, t12.trans f.2.2.2.2.1, t13.trans f.2.2.2.2.2, hk, hq⟩

set_option maxRecDepth 100000 in
set_option maxHeartbeats 2000000 in
theorem names10 (Qx : Exit → Act → World → Prop) (room most : Int) (O : Option Addr) (n co d : Nat) (t0 : Array Value) (X : Option Addr) (c gn cn : Nat) (L : Fl) (W : World) (hL : L.length ≤ 1000000) (hs : slots room most O n co d t0) (e28 : t0.getD 28 undef = .slice X L.length c) (e397 : t0.getD 397 undef = .int .i64 (L.length : Nat)) (e398 : t0.getD 398 undef = .int .i64 0) (e7 : t0.getD 7 undef = .slice (some ⟨gn, 0, none⟩) L.length cn)
    (hX : RdNm W X L) (hN : FlV W gn cn L) (hQ : ∀ t' q, slots room most O n co d t' → sameR t0 t' → Qx .normal ⟨t', []⟩ (W.drewN q)) :
    Code.wp Try.prog p10 Qx ⟨t0, []⟩ W := by
  have HQ := Lib.hid hQ
  clear hQ
  conv => arg 2; whnf
  refine wp_block ?_
  refine wp_loop (NI room most O n co d t0 X c gn cn L W) (fun a _ => L.length - (intOf (a.tmps.getD 398 undef)).toNat) ?_ ?_
  · exact ⟨fun k => t0.getD k undef, 0, by rw [← frm_of hs], e28, e397, e398, e7, rfl, rfl, rfl, rfl, rfl, rfl, Nat.zero_le _, 0, rfl⟩
  · rintro a W' ⟨F, k, rfl, f28, f397, f398, f7, f8, f9, f10, f11, f12, f13, hk, q, rfl⟩
    have FF := Lib.hid (show F 8 = t0.getD 8 undef ∧ F 9 = t0.getD 9 undef ∧ F 10 = t0.getD 10 undef ∧ F 11 = t0.getD 11 undef ∧ F 12 = t0.getD 12 undef ∧ F 13 = t0.getD 13 undef from ⟨f8, f9, f10, f11, f12, f13⟩)
    have E7 := Lib.hid e7
    clear f8 f9 f10 f11 f12 f13 e7 e28 e397 e398
    by_cases hlt : k < L.length
    · have hl1 : decide ((k : Int) < (L.length : Int)) = true := by simp; omega
      obtain ⟨p, hp⟩ : ∃ p, L[k]? = some p := ⟨_, List.getElem?_eq_getElem hlt⟩
      obtain ⟨gx, rfl, xj⟩ := hX.at hp
      have yj := (hN.cell hp).1
      have ts := str_self p.1
      have ts2 : (p.1.toList != p.1.toList) = false := by simp
      have HK := Lib.hid hlt
      unfold frm
      rw [f28, f397, f398, f7]
      clear f28 f397 f398 f7
      go_wp2_with fail
      go_quiet (fail)
      go_wp2
      exact ⟨NI_mk ⟨rfl, rfl, rfl, rfl, rfl⟩ rfl rfl (by show Value.int .i64 ((k : Int) + 1) = _; go_num) rfl rfl rfl rfl rfl rfl rfl FF.out HK.out ⟨_, rfl⟩, meas HK.out⟩
    · have hl1 : decide ((k : Int) < (L.length : Int)) = false := by simp; omega
      unfold frm
      rw [f28, f397, f398, f7]
      clear f28 f397 f398 f7
      go_wp2
      exact HQ.out _ _ ⟨rfl, rfl, rfl, rfl, rfl⟩ ⟨E7.out.symm, FF.out⟩

end Go.Proofs.Ytbdmlenapccdnaa
namespace Go.Proofs.Ytbdmlenapccdnaa
open Go.RowKit

structure HypD (F : Nat → Value) (W : World) (d m gn cn : Nat) (cd : Int) (B : Ab) (σ : Dv) : Prop where
  e7 : F 7 = .slice (some ⟨gn, 0, none⟩) B.now.length cn
  e11 : F 11 = .bool B.off
  e12 : F 12 = .int .i64 B.steps
  e15 : F 15 = .int .i64 cd
  e18 : F 18 = .int .i64 cd
  G : Gd W d m B σ
  hN : FlV W gn cn B.now
  hm : m ≤ 1000

set_option maxRecDepth 100000 in
set_option maxHeartbeats 2000000 in
theorem sgD (Qx : Exit → Act → World → Prop) (room : Int) (O : Option Addr) (n co d m : Nat) (F : Nat → Value) (W : World) (gn cn : Nat) (cd : Int) (B : Ab) (σ : Dv) (h : HypD F W d m gn cn cd B σ)
    (hQ : ∀ t' W', slots room B.room O n co d t' → t'.getD 7 undef = F 7 → t'.getD 8 undef = F 8 → t'.getD 9 undef = F 9 → t'.getD 10 undef = F 10 → t'.getD 11 undef = F 11 → t'.getD 12 undef = F 12 → t'.getD 13 undef = F 13 → Fr (fun _ => False) W W' → Qx .normal ⟨t', []⟩ W' ∧ Qx (.exit 1) ⟨t', []⟩ W') :
    Code.wp Try.prog pD Qx ⟨frm room B.room O n co d F, []⟩ W := by
  obtain ⟨e7, e11, e12, e15, e18, G, hN, hm⟩ := h
  have hlN := G.lenN
  have hur := G.unr
  have hrm := G.rm
  have HQ := Lib.hid hQ
  have E7 := Lib.hid e7
  have E11 := Lib.hid e11
  have E12 := Lib.hid e12
  have hcd : (cd != cd) = false := by simp
  have hst : (B.steps != B.steps) = false := by simp
  have hof : (B.off != B.off) = false := by simp
  have hus : ((used B.now : Int) != (used B.now : Int)) = false := by simp
  have hfe : ((B.room - (used B.now : Int)) != (B.room - (used B.now : Int))) = false := by simp
  have kU := Lib.hid (used_any W gn cn B.now hN (by omega) (by omega))
  unfold frm
  rw [e7, e11, e12, e15, e18]
  clear e7 e11 e12 e15 e18 hQ
  conv => arg 2; whnf
  go_wp2_with fail
  refine (Down_gd G).mono ?_
  rintro e w' ⟨rfl, rfl⟩
  go_wp2_with fail
  refine (Steps_gd G).mono ?_
  rintro e w' ⟨rfl, rfl⟩
  go_wp2_with fail
  refine (Used_gd G).mono ?_
  rintro e w' ⟨rfl, rfl⟩
  go_wp2_with fail
  refine kU.out.mono ?_
  rintro e w2 ⟨rfl, hf2⟩
  have G2 := G.keep hf2
  go_wp2_with fail
  refine (Free_gd G2).mono ?_
  rintro e w' ⟨rfl, q, rfl⟩
  have hf3 := hf2.trans (Fr.drewN w2 q (fun _ => False))
  have kU2 := Lib.hid (used_any (w2.drewN q) gn cn B.now (hN.fr hf3 (fun h => h)) (by omega) (by omega))
  go_wp2_with fail
  refine kU2.out.mono ?_
  rintro e w4 ⟨rfl, hf4⟩
  have G4 := G.keep (hf3.trans hf4)
  cases ho : B.off
  · go_wp2_with fail
    refine (Names_gd G4 ho (by omega)).mono ?_
    rintro e w5 ⟨v, rfl, hr5, hf5⟩
    obtain ⟨X, c, rfl, hX, _⟩ := own_names hr5
    have hfa := ((hf3.trans hf4).trans hf5)
    have hN5 := hN.fr hfa (fun h => h)
    have hll : ((B.now.length : Int) != (B.now.length : Int)) = false := by simp
    clear hr5
    go_upto_block 10 with fail
    refine names10 _ room B.room O n co d _ X c gn cn B.now w5 (by omega) ⟨rfl, rfl, rfl, rfl, rfl⟩ rfl rfl rfl rfl hX hN5 ?_
    intro t' q' hs ⟨s7, s8, s9, s10, s11, s12, s13⟩
    exact (HQ.out t' _ hs (s7.trans E7.out.symm) s8 s9 s10 (s11.trans (by rw [E11.out, ho]; rfl)) (s12.trans E12.out.symm) s13 (hfa.trans (Fr.drewN _ _ _))).1
  · go_wp2_with fail
    refine (Names_off G4 ho).mono ?_
    rintro e w' ⟨rfl, rfl⟩
    go_wp2
    refine (HQ.out _ _ ?_ ?_ ?_ ?_ ?_ ?_ ?_ ?_ ?_).2
    · exact ⟨rfl, rfl, rfl, rfl, rfl⟩
    · exact E7.out.symm
    · rfl
    · rfl
    · rfl
    · rw [E11.out, ho]; rfl
    · exact E12.out.symm
    · rfl
    · exact hf3.trans hf4

end Go.Proofs.Ytbdmlenapccdnaa
namespace Go.Proofs.Ytbdmlenapccdnaa
open Go.RowKit

noncomputable def p8 : Code := sub [1, 2, 1, 4, 1, 4, 1, 4, 1, 4, 1, 4, 1, 4, 1, 3, 1, 1, 1, 0, 1] pC
theorem acts_map_take (L : Fl) (wt : List OpV) (h : ∀ o ∈ wt, o.k = 0 ∨ o.k = 1 ∧ o.s ≠ o.t ∨ o.k = 2) {k : Nat} {o : OpV} (ho : wt[k]? = some o) : acts L ((wt.take (k + 1)).map acOf) = didL (acts L ((wt.take k).map acOf)) o := by
  rw [take_succ ho, List.map_append, acts_append, did_act (h o (List.mem_of_getElem? ho))]
  rfl
/-- the slots that the loop hands on -/
def same8 (t t' : Array Value) : Prop := t'.getD 8 undef = t.getD 8 undef ∧ t'.getD 9 undef = t.getD 9 undef ∧ t'.getD 10 undef = t.getD 10 undef ∧ t'.getD 11 undef = t.getD 11 undef ∧ t'.getD 12 undef = t.getD 12 undef ∧ t'.getD 13 undef = t.getD 13 undef ∧ t'.getD 14 undef = t.getD 14 undef ∧ t'.getD 15 undef = t.getD 15 undef ∧ t'.getD 18 undef = t.getD 18 undef ∧ t'.getD 24 undef = t.getD 24 undef
def sameF (F : Nat → Value) (t : Array Value) : Prop := F 8 = t.getD 8 undef ∧ F 9 = t.getD 9 undef ∧ F 10 = t.getD 10 undef ∧ F 11 = t.getD 11 undef ∧ F 12 = t.getD 12 undef ∧ F 13 = t.getD 13 undef ∧ F 14 = t.getD 14 undef ∧ F 15 = t.getD 15 undef ∧ F 18 = t.getD 18 undef ∧ F 24 = t.getD 24 undef
theorem sameF.mk {F : Nat → Value} {t0 t : Array Value} (f : sameF F t0) (t8 : t.getD 8 undef = F 8) (t9 : t.getD 9 undef = F 9) (t10 : t.getD 10 undef = F 10) (t11 : t.getD 11 undef = F 11) (t12 : t.getD 12 undef = F 12) (t13 : t.getD 13 undef = F 13) (t14 : t.getD 14 undef = F 14) (t15 : t.getD 15 undef = F 15) (t18 : t.getD 18 undef = F 18) (t24 : t.getD 24 undef = F 24) : same8 t0 t :=
  ⟨t8.trans f.1, t9.trans f.2.1, t10.trans f.2.2.1, t11.trans f.2.2.2.1, t12.trans f.2.2.2.2.1, t13.trans f.2.2.2.2.2.1, t14.trans f.2.2.2.2.2.2.1, t15.trans f.2.2.2.2.2.2.2.1, t18.trans f.2.2.2.2.2.2.2.2.1, t24.trans f.2.2.2.2.2.2.2.2.2⟩
def DI (room most : Int) (O : Option Addr) (n co d : Nat) (t0 : Array Value) (V : Option Addr) (c K gs : Nat) (S : Fl) (wt : List OpV) (W : World) (a : Act) (W' : World) : Prop :=
  ∃ F k gn cn, a = ⟨frm room most O n co d F, []⟩ ∧ F 309 = .slice V K c ∧ F 310 = .int .i64 (K : Nat) ∧ F 311 = .int .i64 (k : Nat) ∧ F 7 = .slice (some ⟨gn, 0, none⟩) (acts S ((wt.take k).map acOf)).length cn ∧ sameF F t0 ∧
    k ≤ K ∧ FlV W' gn cn (acts S ((wt.take k).map acOf)) ∧ (gn = gs ∨ W.heap.size ≤ gn) ∧ Fr (fun _ => False) W W'
theorem DI_mk {room most : Int} {O : Option Addr} {n co d : Nat} {t0 : Array Value} {V : Option Addr} {c K gs : Nat} {S : Fl} {wt : List OpV} {W W' : World} {k gn cn : Nat} {t : Array Value} (L : Fl) (hL : acts S ((wt.take (k + 1)).map acOf) = L) (hs : slots room most O n co d t) (e309 : t.getD 309 undef = .slice V K c) (e310 : t.getD 310 undef = .int .i64 (K : Nat)) (e311 : t.getD 311 undef = .int .i64 ((k + 1 : Nat) : Int)) (e7 : t.getD 7 undef = .slice (some ⟨gn, 0, none⟩) L.length cn)
    (hk : k + 1 ≤ K) (hN : FlV W' gn cn L) (hg : gn = gs ∨ W.heap.size ≤ gn) (hf : Fr (fun _ => False) W W') (f : same8 t0 t) : DI room most O n co d t0 V c K gs S wt W ⟨t, []⟩ W' := by
  subst hL
  exact ⟨fun k => t.getD k undef, k + 1, gn, cn, by rw [← frm_of hs], e309, e310, e311, e7, f, hk, hN, hg, hf⟩

set_option maxRecDepth 100000 in
set_option maxHeartbeats 2000000 in
theorem did8 (Qx : Exit → Act → World → Prop) (room most : Int) (O : Option Addr) (n co d : Nat) (t0 : Array Value) (V : Option Addr) (g9 c K gs cs : Nat) (S : Fl) (wt : List OpV) (w1 W : World) (hs : slots room most O n co d t0) (e309 : t0.getD 309 undef = .slice V K c) (e310 : t0.getD 310 undef = .int .i64 (K : Nat)) (e311 : t0.getD 311 undef = .int .i64 0) (e7 : t0.getD 7 undef = .slice (some ⟨gs, 0, none⟩) S.length cs)
    (hK : K ≤ wt.length) (hw : wt.length ≤ 1000) (hV : 0 < K → V = some ⟨g9, 0, none⟩ ∧ g9 < W.heap.size) (hc : ∀ k o, k < K → wt[k]? = some o → OpAt W g9 (0 + k * 6) o) (hS : FlV W gs cs S)
    (hb : ∀ k, k ≤ K → (acts S ((wt.take k).map acOf)).length ≤ 1000000 ∧ used (acts S ((wt.take k).map acOf)) ≤ 1000000000) (hwt : ∀ o ∈ wt, Wt w1 o) (hfr : Fr (fun _ => False) w1 W)
    (hQ : ∀ t' W' gn cn, slots room most O n co d t' → t'.getD 7 undef = .slice (some ⟨gn, 0, none⟩) (acts S ((wt.take K).map acOf)).length cn → same8 t0 t' → FlV W' gn cn (acts S ((wt.take K).map acOf)) → (gn = gs ∨ W.heap.size ≤ gn) → Fr (fun _ => False) W W' → Qx .normal ⟨t', []⟩ W') :
    Code.wp Try.prog p8 Qx ⟨t0, []⟩ W := by
  have HQ := Lib.hid hQ
  have HV := Lib.hid hV
  have HC := Lib.hid hc
  have HB := Lib.hid hb
  clear hQ hV hc hb
  conv => arg 2; whnf
  refine wp_block ?_
  refine wp_loop (DI room most O n co d t0 V c K gs S wt W) (fun a _ => K - (intOf (a.tmps.getD 311 undef)).toNat) ?_ ?_
  · exact ⟨fun k => t0.getD k undef, 0, gs, cs, by rw [← frm_of hs], e309, e310, e311, e7, ⟨rfl, rfl, rfl, rfl, rfl, rfl, rfl, rfl, rfl, rfl⟩, Nat.zero_le _, hS, .inl rfl, Fr.refl _ _⟩
  · rintro a W' ⟨F, k, gn, cn, rfl, f309, f310, f311, f7, fs, hk, hN, hg, hf⟩
    have FS := Lib.hid fs
    have HG := Lib.hid hg
    obtain ⟨Lk, hLk⟩ : ∃ Lk, acts S ((wt.take k).map acOf) = Lk := ⟨_, rfl⟩
    have hbk := HB.out k hk
    rw [hLk] at f7 hN hbk
    obtain ⟨hb1, hb2⟩ := hbk
    have HLK := Lib.hid hLk
    clear fs hg e309 e310 e311 e7 hLk
    by_cases hlt : k < K
    · have hl1 : decide ((k : Int) < (K : Int)) = true := by simp; omega
      obtain ⟨o, ho⟩ : ∃ o, wt[k]? = some o := ⟨_, List.getElem?_eq_getElem (by omega)⟩
      obtain ⟨rfl, hg9⟩ := HV.out (by omega)
      have hat := HC.out k o hlt ho
      have hbk := hf.block g9 hg9 (fun h => h)
      have x0 := (World.cell?_of_block hbk).trans hat.c0
      have x1 := (World.cell?_of_block hbk).trans hat.c1
      have x2 := (World.cell?_of_block hbk).trans hat.c2
      have x3 := (World.cell?_of_block hbk).trans hat.c3
      have x4 := (World.cell?_of_block hbk).trans hat.c4
      have x5 := (World.cell?_of_block hbk).trans hat.c5
      simp only [Nat.zero_add] at x0 x1 x2 x3 x4 x5
      have hwo := hwt o (List.mem_of_getElem? ho)
      have hfa : Fr (fun _ => False) W' (W'.alloc (.cells #[.int .i64 o.k, .string o.s, .string o.t, .slice o.A o.b.length o.c, .int .i64 o.n, .int .i64 o.torn] 30)) := Fr.alloc _ _ _
      have kD := Lib.hid (did_any _ gn cn _ o (hN.fr hfa (fun h => h)) hb1 (hwo.ok.rd.fr ((hfr.trans hf).trans hfa)) (by have := hwo.b; omega) hb2)
      have hst := acts_map_take S wt (fun o h => (hwt o h).k) ho
      rw [HLK.out] at hst
      have HST := Lib.hid hst
      clear hst
      unfold opVal opCells at kD
      have hf2 := hf.trans hfa
      have HLT := Lib.hid hlt
      clear hat hbk hwo hlt
      unfold frm
      rw [f309, f310, f311, f7]
      clear f309 f310 f311 f7
      go_wp2_with fail
      refine kD.out.mono ?_
      intro e w4 hP4
      obtain ⟨g4, c4, rfl, h4, hge4, hf4⟩ := hP4
      have HGE := Lib.hid hge4
      clear hge4
      go_wp2
      refine ⟨DI_mk _ HST.out ⟨rfl, rfl, rfl, rfl, rfl⟩ rfl rfl (by show Value.int .i64 ((k : Int) + 1) = _; go_num) rfl HLT.out h4 ?_ (hf2.trans hf4) (FS.out.mk rfl rfl rfl rfl rfl rfl rfl rfl rfl rfl), meas HLT.out⟩
      rcases HGE.out with hg | ⟨rfl, _⟩
      · exact .inr (Nat.le_trans hf2.size hg)
      · exact HG.out
    · have hl1 : decide ((k : Int) < (K : Int)) = false := by simp; omega
      obtain rfl : k = K := by omega
      unfold frm
      rw [f309, f310, f311, f7]
      clear f309 f310 f311 f7
      go_wp2
      exact HQ.out _ _ gn cn ⟨rfl, rfl, rfl, rfl, rfl⟩ (by rw [HLK.out]; rfl) (FS.out.mk rfl rfl rfl rfl rfl rfl rfl rfl rfl rfl) (by rw [HLK.out]; exact hN) HG.out hf
end Go.Proofs.Ytbdmlenapccdnaa
namespace Go.Proofs.Ytbdmlenapccdnaa
open Go.RowKit

noncomputable def p84 : Code := sub [1, 2, 1, 4, 1, 4, 1, 4, 1, 4, 1, 4, 1, 4, 1, 3, 1, 1, 1, 1] pC
def cutO (o : OpV) (torn : Int) : OpV := { o with b := o.b.take (min torn (o.b.length : Int)).toNat }
/-- the law's files behind the loop: the one that was torn -/
def torn6 (L : Fl) (wt : List OpV) (K : Nat) (torn : Int) : Fl :=
  match wt[K]? with
  | some ow => if 0 < torn ∧ ow.k = 0 then didL L (cutO ow torn) else L
  | none => L
theorem row_at {w : World} {g c : Nat} {wt : List OpV} (h : w.ownsRow 0 30 6 (.slice (some ⟨g, 0, none⟩) wt.length c) wt.length (wt.flatMap opL)) {k : Nat} {o : OpV} (ho : wt[k]? = some o) : OpAt w g (k * 6) o := by
  have hk := (List.getElem?_eq_some_iff.1 ho).1
  have key : ∀ j, j < 6 → (wt.flatMap opL)[k * 6 + j]? = (opL o)[j]? := by
    intro j hj
    have e : wt = wt.take k ++ o :: wt.drop (k + 1) := by
      rw [List.getElem?_eq_getElem hk] at ho
      injection ho with ho
      rw [← ho, ← List.drop_eq_getElem_cons hk, List.take_append_drop]
    rw [e, List.flatMap_append, List.getElem?_append_right (by rw [opLs_len]; simp; omega), opLs_len, List.flatMap_cons, List.getElem?_append_left (by simp [opL, opCells]; omega)]
    congr 1
    simp
    omega
  have hl := opLs_len wt
  have get : ∀ j v, j < 6 → (opL o)[j]? = some v → w.cell? ⟨g, k * 6 + j, none⟩ = some v := fun j v hj hv => by
    rw [h.cellAt _ (by omega), key j hj, hv]
  exact ⟨get 0 _ (by omega) rfl, get 1 _ (by omega) rfl, get 2 _ (by omega) rfl, get 3 _ (by omega) rfl, get 4 _ (by omega) rfl, get 5 _ (by omega) rfl⟩

theorem rd_take {w : World} {k : IntKind} {A : Option Addr} {l : List Int} (n : Nat) (h : Rd w k A l) : Rd w k A (l.take n) := by
  rcases h with rfl | ⟨b, off, e, hb, hc⟩
  · left; simp
  · refine .inr ⟨b, off, e, hb, fun i hi => ?_⟩
    have hi' : i < n ∧ i < l.length := by rw [List.length_take] at hi; omega
    rw [hc i hi'.2]
    simp [hi'.1]

structure Hyp6 (w1 : World) (F : Nat → Value) (W : World) (ob gn cn K : Nat) (v9 : Value) (o : OpV) (L : Fl) (wt : List OpV) : Prop where
  e7 : F 7 = .slice (some ⟨gn, 0, none⟩) L.length cn
  e9 : F 9 = v9
  e14 : F 14 = .pointer (some ⟨ob, 0, none⟩)
  e24 : F 24 = .int .i64 (K : Nat)
  hC : Cel W ob 30 (opCells o)
  wait : W.ownsRow 0 30 6 v9 wt.length (wt.flatMap opL)
  hN : FlV W gn cn L
  hl : L.length ≤ 1000000
  hu : used L ≤ 1000000000
  hwt : ∀ o ∈ wt, Wt w1 o
  hfr : Fr (fun _ => False) w1 W
  hK : K ≤ wt.length
  hwl : wt.length ≤ 1000

/-- what a way out of the piece gives -/
def Out6 (Qx : Exit → Act → World → Prop) (room most : Int) (O : Option Addr) (n co d : Nat) (F : Nat → Value) (W : World) (gn : Nat) (L' : Fl) : Prop :=
  ∀ t' W' gn' cn', slots room most O n co d t' → t'.getD 7 undef = .slice (some ⟨gn', 0, none⟩) L'.length cn' → t'.getD 8 undef = .slice (some ⟨gn', 0, none⟩) L'.length cn' → t'.getD 9 undef = .slice none 0 0 → t'.getD 10 undef = .int .i64 0 → t'.getD 11 undef = .bool false → t'.getD 12 undef = F 12 → t'.getD 13 undef = F 13 → t'.getD 15 undef = F 15 → t'.getD 18 undef = F 18 → FlV W' gn' cn' L' → (gn' = gn ∨ W.heap.size ≤ gn') → Fr (fun _ => False) W W' → Qx .normal ⟨t', []⟩ W'

set_option maxRecDepth 100000 in
set_option maxHeartbeats 2000000 in
theorem tail_none (Qx : Exit → Act → World → Prop) (room most : Int) (O : Option Addr) (n co d : Nat) (F : Nat → Value) (w1 W : World) (ob gn cn K : Nat) (v9 : Value) (o : OpV) (L : Fl) (wt : List OpV) (h : Hyp6 w1 F W ob gn cn K v9 o L wt) (hno : K = wt.length) (hQ : Out6 Qx room most O n co d F W gn L) :
    Code.wp Try.prog p84 Qx ⟨frm room most O n co d F, []⟩ W := by
  obtain ⟨e7, e9, e14, e24, hC, wait, hN, hl, hu, hwt, hfr, hK, hwl⟩ := h
  have HQ := Lib.hid hQ
  subst hno
  have hd : decide ((wt.length : Int) < (wt.length : Int)) = false := by simp
  obtain ⟨V, c, rfl⟩ : ∃ V c, v9 = .slice V wt.length c := by
    rcases wait.2 with ⟨e, hn⟩ | ⟨g, cap, cur, e, _⟩
    · exact ⟨none, 0, by rw [e]; congr 1; omega⟩
    · exact ⟨_, _, e⟩
  unfold frm
  rw [e7, e9, e14, e24]
  clear e7 e9 e14 e24 hQ wait
  conv => arg 2; whnf
  go_wp2
  exact HQ.out _ _ gn cn ⟨rfl, rfl, rfl, rfl, rfl⟩ rfl rfl rfl rfl rfl rfl rfl rfl rfl hN (.inl rfl) (Fr.refl _ _)

theorem wait_some {W : World} {v9 : Value} {wt : List OpV} {K : Nat} (wait : W.ownsRow 0 30 6 v9 wt.length (wt.flatMap opL)) (hlt : K < wt.length) : ∃ g c, v9 = .slice (some ⟨g, 0, none⟩) wt.length c ∧ g < W.heap.size ∧ wt.length ≤ c ∧ c ≤ maxLen := by
  rcases wait.2 with ⟨e, hn⟩ | ⟨g, cap, cur, e, _, hg, h1, h2, _⟩
  · omega
  · exact ⟨_, _, e, (Array.getElem?_eq_some_iff.1 hg).1, h1, h2⟩

set_option maxRecDepth 100000 in
set_option maxHeartbeats 2000000 in
theorem tail_whole (Qx : Exit → Act → World → Prop) (room most : Int) (O : Option Addr) (n co d : Nat) (F : Nat → Value) (w1 W : World) (ob gn cn K : Nat) (v9 : Value) (o ow : OpV) (L : Fl) (wt : List OpV) (h : Hyp6 w1 F W ob gn cn K v9 o L wt) (how : wt[K]? = some ow) (hno : ¬ (0 < o.torn ∧ ow.k = 0)) (hQ : Out6 Qx room most O n co d F W gn L) :
    Code.wp Try.prog p84 Qx ⟨frm room most O n co d F, []⟩ W := by
  obtain ⟨e7, e9, e14, e24, hC, wait, hN, hl, hu, hwt, hfr, hK, hwl⟩ := h
  have HQ := Lib.hid hQ
  have hlt := (List.getElem?_eq_some_iff.1 how).1
  have hd : decide ((K : Int) < (wt.length : Int)) = true := by simp; omega
  have hdi : (K : Int) < (wt.length : Int) := by omega
  obtain ⟨g9, c9, rfl, hg9, _, _⟩ := wait_some wait hlt
  have hat := row_at wait how
  have z0 := hat.c0
  have x5 := hC.cell 5
  simp [opCells] at x5
  by_cases ht : 0 < o.torn
  · have hd2 : decide (0 < o.torn) = true := by simpa using ht
    have hk0 : (ow.k == 0) = false := by simp; intro e; exact hno ⟨ht, e⟩
    unfold frm
    rw [e7, e9, e14, e24]
    clear e7 e9 e14 e24 hQ wait hno ht hat
    conv => arg 2; whnf
    go_wp2
    exact HQ.out _ _ gn cn ⟨rfl, rfl, rfl, rfl, rfl⟩ rfl rfl rfl rfl rfl rfl rfl rfl rfl hN (.inl rfl) (Fr.refl _ _)
  · have hd2 : decide (0 < o.torn) = false := by simpa using ht
    unfold frm
    rw [e7, e9, e14, e24]
    clear e7 e9 e14 e24 hQ wait hno ht hat
    conv => arg 2; whnf
    go_wp2
    exact HQ.out _ _ gn cn ⟨rfl, rfl, rfl, rfl, rfl⟩ rfl rfl rfl rfl rfl rfl rfl rfl rfl hN (.inl rfl) (Fr.refl _ _)

set_option maxRecDepth 100000 in
set_option maxHeartbeats 2000000 in
theorem tail_torn (Qx : Exit → Act → World → Prop) (room most : Int) (O : Option Addr) (n co d : Nat) (F : Nat → Value) (w1 W : World) (ob gn cn K : Nat) (v9 : Value) (o ow : OpV) (L : Fl) (wt : List OpV) (h : Hyp6 w1 F W ob gn cn K v9 o L wt) (how : wt[K]? = some ow) (ht : 0 < o.torn) (hk0' : ow.k = 0) (hQ : Out6 Qx room most O n co d F W gn (didL L (cutO ow o.torn))) :
    Code.wp Try.prog p84 Qx ⟨frm room most O n co d F, []⟩ W := by
  obtain ⟨e7, e9, e14, e24, hC, wait, hN, hl, hu, hwt, hfr, hK, hwl⟩ := h
  have HQ := Lib.hid hQ
  have hlt := (List.getElem?_eq_some_iff.1 how).1
  have hd : decide ((K : Int) < (wt.length : Int)) = true := by simp; omega
  have hdi : (K : Int) < (wt.length : Int) := by omega
  obtain ⟨g9, c9, rfl, hg9, _, _⟩ := wait_some wait hlt
  have hat := row_at wait how
  obtain ⟨z0, z1, z2, z3, z4, z5⟩ := hat
  have x5 := hC.cell 5
  simp [opCells] at x5
  have hd2 : decide (0 < o.torn) = true := by simpa using ht
  have hk0 : (ow.k == 0) = true := by simpa using hk0'
  have hwo := hwt ow (List.mem_of_getElem? how)
  obtain ⟨nn, hnn⟩ : ∃ nn : Nat, min o.torn (ow.b.length : Int) = (nn : Int) := ⟨(min o.torn (ow.b.length : Int)).toNat, by omega⟩
  have hnl : nn ≤ ow.b.length := by omega
  have hncap := hwo.ok.cap
  have hn0 : (0 : Int) ≤ (nn : Int) := by omega
  have hn1 : (nn : Int) ≤ (ow.c : Int) := by omega
  have hob := hC.lt
  have hcut : cutO ow o.torn = { ow with b := ow.b.take nn } := by unfold cutO; rw [hnn]; rfl
  rw [hcut] at HQ
  unfold frm
  rw [e7, e9, e14, e24]
  clear e7 e9 e14 e24 hQ wait ht hk0'
  conv => arg 2; whnf
  have y5 : (W.alloc (.cells #[.int .i64 ow.k, .string ow.s, .string ow.t, .slice ow.A ow.b.length ow.c, .int .i64 ow.n, .int .i64 ow.torn] 30)).cell? ⟨ob, 5, none⟩ = some (.int .i64 o.torn) := (World.cell?_of_block (Below.heap_alloc _ _ ob hob)).trans x5
  have hlen : (ow.b.take nn).length = nn := by rw [List.length_take]; omega
  have hfa : Fr (fun _ => False) W (W.alloc (.cells #[.int .i64 ow.k, .string ow.s, .string ow.t, .slice ow.A nn ow.c, .int .i64 ow.n, .int .i64 ow.torn] 30)) := Fr.alloc _ _ _
  have kD := Lib.hid (did_any _ gn cn L { ow with b := ow.b.take nn } (hN.fr hfa (fun h => h)) hl ((rd_take nn hwo.ok.rd).fr (hfr.trans hfa)) (by have := hwo.b; show (ow.b.take nn).length ≤ _; omega) hu)
  unfold opVal opCells at kD
  simp only [hlen] at kD
  go_wp2_with fail
  refine kD.out.mono ?_
  intro e w4 hP4
  obtain ⟨g4, c4, rfl, h4, hge4, hf4⟩ := hP4
  have HGE := Lib.hid hge4
  clear hge4
  go_wp2
  refine HQ.out _ _ g4 c4 ⟨rfl, rfl, rfl, rfl, rfl⟩ rfl rfl rfl rfl rfl rfl rfl rfl rfl h4 ?_ (hfa.trans hf4)
  rcases HGE.out with hg | ⟨rfl, _⟩
  · exact .inr (Nat.le_trans hfa.size hg)
  · exact .inl rfl

end Go.Proofs.Ytbdmlenapccdnaa
namespace Go.Proofs.Ytbdmlenapccdnaa
open Go.RowKit Go.Maps

theorem Gd.someS {w : World} {d m : Nat} {A : Ab} {σ : Dv} (h : Gd w d m A σ) {x : ByteArray} {l : List Int} (e : lk A.safe x = some l) : ∃ v, σ.S (.safe x) = some (v, l) := by
  rw [← h.safe] at e
  unfold cont at e
  cases hS : σ.S (.safe x) with
  | none => rw [hS] at e; cases e
  | some y => rw [hS] at e; cases e; exact ⟨y.1, rfl⟩
theorem Gd.keysS {w : World} {d m : Nat} {A : Ab} {σ : Dv} (h : Gd w d m A σ) {D0 : DataW Unit} {b : Nat} (hown : w.ownsMap Try.prog 9 sv b σ.ns D0) (hD : ∀ s : ByteArray, has D0 (ky s) = (vsafe σ.S s).isSome ∧ D0.atKey (ky s) (sd nilS) = sd ((vsafe σ.S s).getD nilS) ∧ isS ((vsafe σ.S s).getD nilS) = true) : (nms A.safe).Perm (strKeys D0) := by
  refine Collected.perm (left := fun _ => false) ⟨nms_nodup h.ss, fun x => ?_⟩ hown K Try.underlying9 (fun _ => rfl)
  have h1 := (hD ⟨x.toArray⟩).1
  rw [lk_isSome h.ss]
  have h2 : ky ⟨x.toArray⟩ = .string x := by unfold ky; simp
  rw [h2] at h1
  rw [h1]
  unfold vsafe
  rw [← h.safe]; unfold cont
  simp
theorem Gd.lenS {w : World} {d m : Nat} {A : Ab} {σ : Dv} (h : Gd w d m A σ) : A.safe.length ≤ m := by
  cases hn : A.safe with
  | nil => simp
  | cons p L =>
    have hp : p ∈ A.safe := by rw [hn]; exact List.mem_cons_self
    have hl := mem_lk h.ss (x := p.1) (c := p.2) hp
    obtain ⟨v, hv⟩ := h.someS hl
    rcases h.inv.fs with ⟨_, hV⟩ | ⟨b, _, D0, hown, hD⟩
    · have := congrFun hV p.1
      unfold vsafe at this
      rw [hv] at this
      cases this
    · have h1 := (h.keysS hown hD).length_eq
      have h2 := hown.size_le
      have h3 := h.ns
      have h4 : (strKeys D0).length = Maps.size D0 := by
        obtain ⟨es, rfl, _⟩ := hown.keysOf
        simp [strKeys, Maps.size]
      have h5 : (nms A.safe).length = A.safe.length := by unfold nms; simp
      rw [← hn]
      omega
theorem len_act (L : Fl) (c : AC) : (act L c).length ≤ L.length + 1 := by
  unfold act
  split
  · exact len_put _ _ _
  · split
    · have := len_put (del L c.s) c.t ((lk L c.s).getD [])
      have := len_del L c.s
      omega
    · have := len_del L c.s
      omega
theorem len_acts : ∀ (L : Fl) (cs : List AC), (acts L cs).length ≤ L.length + cs.length
  | L, [] => by simp [acts]
  | L, c :: cs => by
    have h1 := len_acts (act L c) cs
    have h2 := len_act L c
    show (acts (act L c) cs).length ≤ _
    simp only [List.length_cons]
    omega
/-- what a crash leaves, as the law does it -/
theorem left_law {A : Ab} {wt : List OpV} {w1 : World} (hp : A.pend = wt.map acOf) (hw : ∀ o ∈ wt, Wt w1 o) (keep torn : Int) : kept A keep = (min (max keep 0) (wt.length : Int)).toNat ∧ acts A.safe (left A keep torn) = torn6 (acts A.safe ((wt.take (kept A keep)).map acOf)) wt (kept A keep) torn := by
  have hk : kept A keep = (min (max keep 0) (wt.length : Int)).toNat := by unfold kept; rw [hp, List.length_map]
  refine ⟨hk, ?_⟩
  unfold left torn6
  rw [hp, ← List.map_take, List.getElem?_map]
  cases ho : wt[kept A keep]? with
  | none => simp
  | some ow =>
    have hwo := hw ow (List.mem_of_getElem? ho)
    have hkk : (acOf ow).k = 0 ↔ ow.k = 0 := by
      unfold acOf
      rcases hwo.k with h | ⟨h, _⟩ | h <;> simp [h]
    simp only [Option.map_some]
    by_cases ht : 0 < torn
    · by_cases h0 : ow.k = 0
      · rw [if_pos ht, if_pos (hkk.2 h0), if_pos ⟨ht, h0⟩, acts_append]
        rw [did_act (o := cutO ow torn) (.inl h0)]
        have e : acOf (cutO ow torn) = { acOf ow with data := (acOf ow).data.take (min torn ((acOf ow).data.length : Int)).toNat } := by
          unfold acOf cutO
          simp [h0]
        rw [e]
        rfl
      · rw [if_pos ht, if_neg (fun h => h0 (hkk.1 h)), if_neg (fun h => h0 h.2), List.append_nil]
    · rw [if_neg ht, if_neg (fun h => ht h.1), List.append_nil]

end Go.Proofs.Ytbdmlenapccdnaa
namespace Go.Proofs.Ytbdmlenapccdnaa
open Go.RowKit

theorem tail6 (Qx : Exit → Act → World → Prop) (room most : Int) (O : Option Addr) (n co d : Nat) (t : Array Value) (w1 W : World) (ob gn cn K : Nat) (v9 : Value) (o : OpV) (L : Fl) (wt : List OpV) (hs : slots room most O n co d t) (h : Hyp6 w1 (fun k => t.getD k undef) W ob gn cn K v9 o L wt) (hQ : Out6 Qx room most O n co d (fun k => t.getD k undef) W gn (torn6 L wt K o.torn)) :
    Code.wp Try.prog p84 Qx ⟨t, []⟩ W := by
  rw [frm_of hs]
  unfold torn6 at hQ
  cases ho : wt[K]? with
  | none =>
    rw [ho] at hQ
    have hK := h.hK
    have : wt.length ≤ K := List.getElem?_eq_none_iff.1 ho
    exact tail_none Qx room most O n co d _ w1 W ob gn cn K v9 o L wt h (by omega) hQ
  | some ow =>
    rw [ho] at hQ
    simp only at hQ
    by_cases hy : 0 < o.torn ∧ ow.k = 0
    · rw [if_pos hy] at hQ
      exact tail_torn Qx room most O n co d _ w1 W ob gn cn K v9 o ow L wt h ho hy.1 hy.2 hQ
    · rw [if_neg hy] at hQ
      exact tail_whole Qx room most O n co d _ w1 W ob gn cn K v9 o ow L wt h ho hy hQ

theorem wait_form {W : World} {v9 : Value} {wt : List OpV} (wait : W.ownsRow 0 30 6 v9 wt.length (wt.flatMap opL)) : ∃ V c g, v9 = .slice V wt.length c ∧ (0 < wt.length → V = some ⟨g, 0, none⟩ ∧ g < W.heap.size) ∧ wt.length ≤ c ∧ c ≤ maxLen := by
  rcases wait.2 with ⟨e, hn⟩ | ⟨g, cap, cur, e, _, hg, h1, h2, _⟩
  · exact ⟨none, 0, 0, by rw [e]; congr 1; omega, fun h => by omega, by omega, Nat.zero_le _⟩
  · exact ⟨_, _, g, e, fun _ => ⟨rfl, (Array.getElem?_eq_some_iff.1 hg).1⟩, h1, h2⟩

set_option maxRecDepth 100000 in
set_option maxHeartbeats 2000000 in
theorem sgC_6 (Qx : Exit → Act → World → Prop) (room : Int) (O : Option Addr) (n co d m : Nat) (F : Nat → Value) (w1 W : World) (Q : Nat → Prop) (ob gn cn gs cs : Nat) (v9 : Value) (o : OpV) (A : Ab) (wt : List OpV) (h : HypC w1 Q F W d m ob gn cn gs cs v9 o A wt) (hk : o.k = 6) :
    Code.wp Try.prog pC (Exit.then (IC room A.room O n co d m F w1 o A wt) Qx) ⟨frm room A.room O n co d F, []⟩ W := by
  have ha : A1 A o = A ∧ want2 A o = 0 := by
    have hw : want1 A o = 0 := by unfold want1; rw [if_pos (by omega)]
    have := stays (A := A) (o := o) (by omega)
    exact ⟨this.1, this.2.trans hw⟩
  have hwt1 : wait1 A o wt = wt := by unfold wait1; rw [if_neg (by omega)]
  have law := h.law
  rw [ha.1, hwt1] at law
  obtain ⟨σ, G⟩ := h.many.get (i := 0) (by omega)
  have hmm := h.hm
  have hns := G.ns
  have hcl := G.cl
  have hpl : A.pend.length = wt.length := by rw [law.pend, List.length_map]
  have hwl : wt.length ≤ 1000 := by omega
  have hls := G.lenS
  obtain ⟨hK1, hLeft⟩ := left_law law.pend law.wok o.n o.torn
  obtain ⟨K, hKe⟩ : ∃ K, kept A o.n = K := ⟨_, rfl⟩
  rw [hKe] at hK1 hLeft
  have hK : min (max o.n 0) (wt.length : Int) = (K : Int) := by omega
  have hKl : K ≤ wt.length := by omega
  have hbd : ∀ k, k ≤ K → (acts A.safe ((wt.take k).map acOf)).length ≤ 1000000 ∧ used (acts A.safe ((wt.take k).map acOf)) ≤ 1000000000 := by
    intro k hk
    have h1 := len_acts A.safe ((wt.take k).map acOf)
    have h2 := used_take A.room G.usf G.ok k (by omega)
    rw [law.pend, ← List.map_take] at h2
    have h3 := G.rm
    rw [List.length_map, List.length_take] at h1
    omega
  obtain ⟨V, c9, g9, hv9, hV, hc9, hc9m⟩ := wait_form law.wait
  unfold maxLen at hc9m
  have x0 := h.hC.cell 0
  have x4 := h.hC.cell 4
  have x5 := h.hC.cell 5
  simp [opCells] at x0 x4 x5
  rw [hk] at x0
  have kC := Lib.hid (Crash_many h.many (i := 0) (by omega) o.n o.torn (by omega))
  have HA := Lib.hid ha
  have HH := Lib.hid h
  have HK := Lib.hid hk
  have LAW := Lib.hid law
  have HV := Lib.hid hV
  have HB := Lib.hid hbd
  have HL := Lib.hid hLeft
  have QO := Lib.hid h.qo
  have MANY := Lib.hid h.many
  have e8 := h.e8
  have e9 := h.e9
  have e14 := h.e14
  have e18 := h.e18
  rw [hv9] at e9
  rw [ha.1] at e8
  have E12 := Lib.hid h.e12
  have E15 := Lib.hid h.e15
  have HV9 := Lib.hid hv9
  have hk0 : (0 : Int) ≤ (K : Int) := by omega
  have hk1 : (K : Int) ≤ (c9 : Int) := by omega
  unfold frm
  rw [e8, e9, e14, e18]
  clear e8 e9 e14 e18 hk h ha hwt1 law G hmm hns hcl hpl hls hK1 hLeft hKe hbd hV hv9
  conv => arg 2; whnf
  go_wp2_with fail
  refine kC.out.mono ?_
  rintro e w5 ⟨rfl, h5, q5⟩
  have h5' := h5.one
  have z4 : w5.cell? ⟨ob, 4, none⟩ = some (.int .i64 o.n) := (World.cell?_of_block (q5 ob QO.out)).trans x4
  clear h5 x0 x4 x5
  have HQ5 := Lib.hid q5
  have H5 := Lib.hid h5'
  clear q5 h5'
  go_upto_block 8 with fail
  rename_i hKK
  have law5 := LAW.out.blk HQ5.out
  refine did8 _ room A.room O n co d _ V g9 c9 K gs cs A.safe wt w1 w5 ⟨rfl, rfl, rfl, rfl, rfl⟩ rfl rfl rfl rfl hKl hwl ?_ ?_ law5.safe HB.out law5.wok H5.out.fr ?_
  · intro hp
    have h1 := (HV.out (by omega)).1
    exact ⟨h1, H5.out.lt (LAW.out.qw g9 (by rw [HV9.out, h1]; rfl))⟩
  · intro k o' hk ho
    have hw := law5.wait
    rw [HV9.out, (HV.out (by omega)).1] at hw
    rw [Nat.zero_add]
    exact row_at hw ho
  · intro t' W' gn' cn' hs' t7 sm hN' hg' hf'
    obtain ⟨s8, s9, s10, s11, s12, s13, s14, s15, s18, s24⟩ := sm
    have hob5 : ob < w5.heap.size := H5.out.lt QO.out
    refine hKK _ _ ?_
    refine tail6 _ room A.room O n co d t' w1 W' ob gn' cn' K v9 o _ wt hs' ⟨t7, s9.trans HV9.out.symm, s14, s24, HH.out.hC.of ((hf'.block ob hob5 (fun h => h)).trans (HQ5.out ob QO.out)), own_fr law5.wait hf' (fun _ _ h => h), hN', (HB.out K (Nat.le_refl _)).1, (HB.out K (Nat.le_refl _)).2, law5.wok, H5.out.fr.trans hf', hKl, hwl⟩ ?_
    intro t2 W2 g2 c2 hs2 u7 u8 u9 u10 u11 u12 u13 u15 u18 hN2 hg2 hf2
    have e2 : A2 A o = crA A o.n o.torn := by unfold A2; rw [if_neg (by rw [HK.out]; decide), if_pos HK.out]
    have ew : wait2 A o wt = [] := by unfold wait2; rw [if_pos HK.out]
    have hff := hf'.trans hf2
    have hgl := hN2.lt
    have hq2 : Q g2 ∨ (w5.heap.size ≤ g2 ∧ g2 < W2.heap.size) := by
      rcases hg2 with rfl | hg2
      · rcases hg' with rfl | hg'
        · exact .inl LAW.out.qs
        · exact .inr ⟨hg', hgl⟩
      · exact .inr ⟨Nat.le_trans hf'.size hg2, hgl⟩
    have hnow : (crA A o.n o.torn).now = torn6 (acts A.safe ((wt.take K).map acOf)) wt K o.torn := HL.out
    have hsafe : (crA A o.n o.torn).safe = torn6 (acts A.safe ((wt.take K).map acOf)) wt K o.torn := HL.out
    refine IC_mk (fun k => Q k ∨ (w5.heap.size ≤ k ∧ k < W2.heap.size)) g2 c2 g2 c2 (.slice none 0 0) hs2 ?_ ?_ u9 ?_ ?_ ?_ (u13.trans s13) ((u15.trans s15).trans E15.out) ?_ ?_ ?_
    · rw [e2, hnow]; exact u7
    · rw [e2, hsafe]; exact u8
    · rw [e2]; exact u10
    · rw [e2]; exact u11
    · rw [e2]
      refine (u12.trans s12).trans (E12.out.trans ?_)
      rw [HA.out.1]
      rfl
    · rw [HA.out.2]
      exact u18.trans s18
    · rw [e2, ew]
      exact ⟨by rw [hnow]; exact hN2, hq2, by rw [hsafe]; exact hN2, hq2, ⟨rfl, .inl ⟨rfl, rfl⟩⟩, (fun k e => by cases e), rfl, (fun o h => by cases h)⟩
    · rw [e2]
      exact (H5.out.new hff).le (Nat.le_succ _)

end Go.Proofs.Ytbdmlenapccdnaa
