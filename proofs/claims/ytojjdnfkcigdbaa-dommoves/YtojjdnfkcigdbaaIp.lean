/- A step of the laws of layer 8: Add. -/
import Derived.Test.YtojjdnfkcigdbaaJoin19
import Derived.Laws.BitsLemmas
namespace Go.Proofs.Ytojjdnfkcigdbaa
open Go.RowKit Go.Shelf Go.Lib

theorem i64_and_powL (m : Nat) (n : Int) (p : Int) (hm : m ≤ 62) (h : (BitVec.ofInt 64 p).toNat = 2 ^ m - 1) : bits .and .i64 n p = n % (2 ^ m : Nat) := by
  have key : (BitVec.ofInt 64 n &&& BitVec.ofInt 64 p).toNat = (n % ((2 ^ 64 : Nat) : Int)).toNat % 2 ^ m := by
    rw [BitVec.toNat_and, BitVec.toNat_ofInt, h, Nat.and_two_pow_sub_one_eq_mod]
  show IntKind.i64.wrap ((BitVec.ofInt 64 n &&& BitVec.ofInt 64 p).toNat : Nat) = n % (2 ^ m : Nat)
  rw [key, IntKind.wrap_i64]
  have h2 : 2 ^ m ≤ 2 ^ 62 := Nat.pow_le_pow_right (by omega) hm
  have h3 : (2 ^ 64 : Nat) = 2 ^ m * 2 ^ (64 - m) := by rw [← Nat.pow_add]; congr 1; omega
  have h4 : ((n % ((2 ^ 64 : Nat) : Int)).toNat % 2 ^ m : Nat) = n % ((2 ^ m : Nat) : Int) := by
    rw [Int.natCast_emod, Int.toNat_of_nonneg (Int.emod_nonneg _ (by decide)), h3, Int.natCast_mul, Int.emod_emod_of_dvd _ (Int.dvd_mul_right _ _)]
  have h5 : (0 : Int) ≤ n % ((2 ^ m : Nat) : Int) := Int.emod_nonneg _ (by have := Nat.two_pow_pos m; omega)
  have h6 : n % ((2 ^ m : Nat) : Int) < ((2 ^ m : Nat) : Int) := Int.emod_lt_of_pos _ (by have := Nat.two_pow_pos m; omega)
  omega
theorem and3L (n : Int) : bits .and .i64 n 3 = n % 4 := i64_and_powL 2 n 3 (by decide) (by decide)
theorem and65L (n : Int) : bits .and .i64 n 65535 = n % 65536 := i64_and_powL 16 n 65535 (by decide) (by decide)
/-- the node that is added -/
def ndOf (kind : Int) (name data : ByteArray) (kv : Value) : Nd := ⟨kind, 0, name, data, none, [], 0, ⟨#[]⟩, ⟨#[]⟩, 3, kv, [], 4⟩
/-- the tree's Add, whatever the node -/
theorem add_both {base D : Nat} {v : Value} {ns : List Nd} {W : World} (kind : Int) (name data : ByteArray) (kv : Value) (h : DocM base D v false ns W) (hb : base ≤ W.heap.size) (hl : ns.length ≤ 1000) :
    Calls Try.prog 24 #[.pointer (some ⟨D, 0, none⟩), .agg #[.int .i64 kind, .int .i64 0, .string name, .string data, .slice none 0 0, .string ⟨#[]⟩, .string ⟨#[]⟩, .int .i64 3, kv, .int .i64 4]] W fun e W' => e = .returned (.int .i64 ns.length) ∧
      ∃ ns', ns'.map Nd.pl = ns.map Nd.pl ++ newQ ns.length ⟨kind, name, data, 0, [], 0⟩ ∧ ns'.map Nd.rst = ns.map Nd.rst ++ (newQ ns.length ⟨kind, name, data, 0, [], 0⟩).map (fun _ => rst0) ∧ Adds base D v false ns ns' W W' := by
  have e1 : tplB (ndOf kind name data kv) = tplQ ⟨kind, name, data, 0, [], 0⟩ := by
    unfold tplB tplQ ndOf
    simp
  cases ht : tplB (ndOf kind name data kv) with
  | false =>
    have hn : newQ ns.length ⟨kind, name, data, 0, [], 0⟩ = [⟨kind, name, data, -1, [], -1⟩] := by unfold newQ; rw [← e1, ht]; rfl
    refine (add_plain (ndOf kind name data kv) h hb ht (by omega) (.inl rfl) (fun _ => rfl) (Nat.zero_le _)).mono ?_
    rintro e W' ⟨rfl, A, c, ha⟩
    exact ⟨rfl, _, by rw [List.map_append, hn]; rfl, by rw [List.map_append, hn]; rfl, ha⟩
  | true =>
    have hn : newQ ns.length ⟨kind, name, data, 0, [], 0⟩ = [⟨kind, name, data, -1, [], (ns.length : Int) + 1⟩, ⟨1, ⟨#[]⟩, ⟨#[]⟩, -1, [], -1⟩] := by unfold newQ; rw [← e1, ht]; rfl
    refine (add_tpl (ndOf kind name data kv) h hb ht (by omega) (.inl rfl) (fun _ => rfl) (Nat.zero_le _)).mono ?_
    rintro e W' ⟨rfl, A, c, ha⟩
    exact ⟨rfl, _, by rw [List.map_append, hn]; rfl, by rw [List.map_append, hn]; rfl, ha⟩
theorem newQ_len (n : Nat) (x : Pl) : (newQ n x).length ≤ 2 := by
  unfold newQ
  split <;> simp
theorem newQ_dat (n : Nat) (x : Pl) {B : Nat} (h : x.data.size ≤ B) : ∀ y ∈ newQ n x, y.data.size ≤ B := by
  intro y hy
  unfold newQ at hy
  split at hy
  · simp only [List.mem_cons, List.not_mem_nil, or_false] at hy
    rcases hy with rfl | rfl
    · exact h
    · exact Nat.zero_le _
  · rw [List.mem_singleton] at hy
    subst hy
    exact h
/-- behind both calls -/
theorem add_fin {w1 W W' W'' : World} {D : Nat} {v va va' : Value} {ns ns' : List Nd} {os os' : List Ow} {m : Nat} {x : Pl} (st : St w1 D v ns va os m W) (hk : 1 ≤ x.kind) (hx : x.data.size ≤ 50)
    (h1 : ns'.map Nd.pl = ns.map Nd.pl ++ newQ ns.length x) (h2 : ns'.map Nd.rst = ns.map Nd.rst ++ (newQ ns.length x).map (fun _ => rst0)) (v' : Value) (hp : Pr w1 D v' ns' va os W')
    (h3 : os'.map Ow.pl = os.map Ow.pl ++ newQ os.length x) (ho : OwM w1.heap.size va' os' W'') (hf : Frm (fun k => va.ownBlock = some k) W' W'') (hn : ∀ k, OB va' os' k → OB va os k ∨ W'.heap.size ≤ k) : St w1 D v' ns' va' os' (m + 1) W'' := by
  have hle := st.len
  have hln := congrArg List.length h3
  have h9 := newQ_len os.length x
  rw [List.length_append, List.length_map, List.length_map] at hln
  have hpos := st.pos
  refine (hp.law ho hf hn).st (by rw [h1, h3, st.eq, st.len2]) (by
    rw [h3]
    have := newQ_tr st.tr hk
    rw [List.length_map] at this
    exact this) (by omega) (by omega) (by
    rw [h3]
    intro y hy
    rcases List.mem_append.1 hy with hy | hy
    · have := st.dat y hy; omega
    · have := newQ_dat os.length x hx y hy; omega) (by
    rw [h2]
    intro r hr
    rcases List.mem_append.1 hr with hr | hr
    · exact st.rst r hr
    · obtain ⟨_, _, e⟩ := List.mem_map.1 hr
      exact e.symm)
set_option maxRecDepth 100000 in
set_option maxHeartbeats 4000000 in
theorem sw_0 (Q : Exit → Act → World → Prop) (w1 W : World) (D : Nat) (v va : Value) (ns : List Nd) (os : List Ow) (m : Nat) (F : Nat → Value) (ob : Nat) (o : OpD) (a b c : Int) (h : HS w1 D v ns va os m F ob o a b c W) (hk : o.k = 0)
    (hQ : ∀ t W', PSw w1 D m F t W' → Q .normal ⟨t, []⟩ W') : Code.wp Try.prog plS Q ⟨frm277 F, []⟩ W := by
  obtain ⟨st, e5, e6, e8, e10, e11, e12, e65, hob, hobw, hobd, hobo, ha, hb, hc, hsz, hm⟩ := h
  rw [hk] at e65
  have hl2 := st.len2
  have hle := st.len
  obtain ⟨Av, cv, hv, _, _, hgv⟩ := st.own.sl
  subst hv
  have x4 : W.cell? ⟨ob, 4, none⟩ = some (.int .i64 o.n) := by rw [cell_of_row _ _ _ _ _ _ hob]; rfl
  have x5 : W.cell? ⟨ob, 5, none⟩ = some (.string o.s) := by rw [cell_of_row _ _ _ _ _ _ hob]; rfl
  have HQ := Lib.hid hQ
  have HST := Lib.hid st
  have HOB := Lib.hid hob
  have HSZ := Lib.hid hsz
  have hobl := (Array.getElem?_eq_some_iff.1 hob).1
  obtain ⟨sv, hsv⟩ : ∃ sv, o.s = sv := ⟨_, rfl⟩
  rw [hsv] at x5 HSZ
  have x5' : ∀ o1 o2 o3 : Obj, (((W.alloc o1).alloc o2).alloc o3).cell? ⟨ob, 5, none⟩ = some (.string sv) := fun o1 o2 o3 => ((((Below.refl W.heap.size W).alloc (Nat.le_refl _) o1).alloc (by rw [World.size_alloc]; omega) o2).alloc (by rw [World.size_alloc, World.size_alloc]; omega) o3).cell (p := ⟨ob, 5, none⟩) hobl |>.trans x5
  have FB := Lib.hid (fun o1 o2 o3 : Obj => show Below W.heap.size W (((W.alloc o1).alloc o2).alloc o3) from (((Below.refl W.heap.size W).alloc (Nat.le_refl _) o1).alloc (by rw [World.size_alloc]; omega) o2).alloc (by rw [World.size_alloc, World.size_alloc]; omega) o3)
  have KA := Lib.hid (fun (kind : Int) (name data : ByteArray) (kv : Value) (o1 o2 o3 : Obj) => show Calls Try.prog 24 #[.pointer (some ⟨D, 0, none⟩), .agg #[.int .i64 kind, .int .i64 0, .string name, .string data, .slice none 0 0, .string ⟨#[]⟩, .string ⟨#[]⟩, .int .i64 3, kv, .int .i64 4]] (((W.alloc o1).alloc o2).alloc o3) (fun e W' => e = .returned (.int .i64 os.length) ∧
      ∃ ns' v', ns'.map Nd.pl = ns.map Nd.pl ++ newQ ns.length ⟨kind, name, data, 0, [], 0⟩ ∧ ns'.map Nd.rst = ns.map Nd.rst ++ (newQ ns.length ⟨kind, name, data, 0, [], 0⟩).map (fun _ => rst0) ∧ Pr w1 D v' ns' (.slice Av os.length cv) os W' ∧ W'.heap[W.heap.size]? = some o1) from by
    have stW := st.below (FB.out o1 o2 o3)
    refine (add_both kind name data kv stW.doc stW.bw.size (by omega)).mono ?_
    rintro e W4 ⟨rfl, ns', h1, h2, hA⟩
    obtain ⟨v', hp⟩ := stW.pr.adds hA
    refine ⟨by rw [hl2], ns', v', h1, h2, hp, ?_⟩
    obtain ⟨_, _, hf, _⟩ := hA
    refine (hf.block W.heap.size (by simp; omega) (fun e => by have := (st.doc.in_ _ e).2; omega)).trans ?_
    rw [Below.heap_alloc _ _ _ (by simp; omega), Below.heap_alloc _ _ _ (by simp)]
    exact heap_alloc_new W o1)
  have n0 : 0 ≤ o.n % 4 := by omega
  have n1 : o.n % 4 < 4 := by omega
  have hbi : bits BinOp.and IntKind.i64 o.n 3 = o.n % 4 := and3L o.n
  obtain ⟨r, hr⟩ : ∃ r, o.n % 4 = r := ⟨_, rfl⟩
  rw [hr] at hbi n0 n1
  clear hQ st hob hk hl2 hgv hobw hobd hobo hsz hsv hr
  by_cases h0 : r = 0
  · subst h0
    unfold frm277
    rw [e5, e6, e8, e10, e11, e12, e65]
    clear e5 e6 e8 e10 e11 e12 e65
    conv => arg 2; whnf
    go_wp2_with fail
    refine (KA.out 2 sv ⟨#[]⟩ _ _ _ _).mono ?_
    rintro e W4 ⟨rfl, ns', v', h1, h2, hp, gX⟩
    have q0 : W4.cell? ⟨W.heap.size, 0, none⟩ = some (.int .i64 2) := by rw [cell_of_row _ _ _ _ _ _ gX]; rfl
    have q1 : W4.cell? ⟨W.heap.size, 1, none⟩ = some (.string sv) := by rw [cell_of_row _ _ _ _ _ _ gX]; rfl
    have q2 : W4.cell? ⟨W.heap.size, 2, none⟩ = some (.string ⟨#[]⟩) := by rw [cell_of_row _ _ _ _ _ _ gX]; rfl
    have q3 : W4.cell? ⟨W.heap.size, 3, none⟩ = some (.int .i64 0) := by rw [cell_of_row _ _ _ _ _ _ gX]; rfl
    have q4 : W4.cell? ⟨W.heap.size, 4, none⟩ = some (.slice none 0 0) := by rw [cell_of_row _ _ _ _ _ _ gX]; rfl
    have q5 : W4.cell? ⟨W.heap.size, 5, none⟩ = some (.int .i64 0) := by rw [cell_of_row _ _ _ _ _ _ gX]; rfl
    have KL := Lib.hid (ladd_any ⟨2, sv, ⟨#[]⟩, 0, [], 0⟩ W4 hp.own hp.bw.size (by omega))
    have dz : ((os.length : Int) != (os.length : Int)) = false := by simp
    have HH1 := Lib.hid h1
    have HH2 := Lib.hid h2
    have HP := Lib.hid hp
    clear h1 h2 hp gX x5'
    go_wp2_with fail
    refine KL.out.mono ?_
    rintro e W5 ⟨va', os', rfl, h3, ho, hf, hn⟩
    have HFIN := Lib.hid (add_fin (x := ⟨2, sv, ⟨#[]⟩, 0, [], 0⟩) HST.out (show (1 : Int) ≤ 2 by omega) (by first | exact HSZ.out | exact Nat.zero_le _) HH1.out HH2.out v' HP.out h3 ho hf hn)
    clear h3 ho hf hn KL
    go_wp2
    exact HQ.out _ _ ⟨rfl, rfl, rfl, rfl, v', ns', os', HFIN.out⟩
  · by_cases h1 : r = 1
    · subst h1
      clear h0
      unfold frm277
      rw [e5, e6, e8, e10, e11, e12, e65]
      clear e5 e6 e8 e10 e11 e12 e65
      conv => arg 2; whnf
      go_wp2_with fail
      refine (KA.out 3 ⟨#[]⟩ sv _ _ _ _).mono ?_
      rintro e W4 ⟨rfl, ns', v', h1, h2, hp, gX⟩
      have q0 : W4.cell? ⟨W.heap.size, 0, none⟩ = some (.int .i64 3) := by rw [cell_of_row _ _ _ _ _ _ gX]; rfl
      have q1 : W4.cell? ⟨W.heap.size, 1, none⟩ = some (.string ⟨#[]⟩) := by rw [cell_of_row _ _ _ _ _ _ gX]; rfl
      have q2 : W4.cell? ⟨W.heap.size, 2, none⟩ = some (.string sv) := by rw [cell_of_row _ _ _ _ _ _ gX]; rfl
      have q3 : W4.cell? ⟨W.heap.size, 3, none⟩ = some (.int .i64 0) := by rw [cell_of_row _ _ _ _ _ _ gX]; rfl
      have q4 : W4.cell? ⟨W.heap.size, 4, none⟩ = some (.slice none 0 0) := by rw [cell_of_row _ _ _ _ _ _ gX]; rfl
      have q5 : W4.cell? ⟨W.heap.size, 5, none⟩ = some (.int .i64 0) := by rw [cell_of_row _ _ _ _ _ _ gX]; rfl
      have KL := Lib.hid (ladd_any ⟨3, ⟨#[]⟩, sv, 0, [], 0⟩ W4 hp.own hp.bw.size (by omega))
      have dz : ((os.length : Int) != (os.length : Int)) = false := by simp
      have HH1 := Lib.hid h1
      have HH2 := Lib.hid h2
      have HP := Lib.hid hp
      clear h1 h2 hp gX x5'
      go_wp2_with fail
      refine KL.out.mono ?_
      rintro e W5 ⟨va', os', rfl, h3, ho, hf, hn⟩
      have HFIN := Lib.hid (add_fin (x := ⟨3, ⟨#[]⟩, sv, 0, [], 0⟩) HST.out (show (1 : Int) ≤ 3 by omega) (by first | exact HSZ.out | exact Nat.zero_le _) HH1.out HH2.out v' HP.out h3 ho hf hn)
      clear h3 ho hf hn KL
      go_wp2
      exact HQ.out _ _ ⟨rfl, rfl, rfl, rfl, v', ns', os', HFIN.out⟩
    · by_cases h2 : r = 2
      · subst h2
        clear h0 h1
        unfold frm277
        rw [e5, e6, e8, e10, e11, e12, e65]
        clear e5 e6 e8 e10 e11 e12 e65
        conv => arg 2; whnf
        go_wp2_with fail
        refine (KA.out 4 ⟨#[]⟩ sv _ _ _ _).mono ?_
        rintro e W4 ⟨rfl, ns', v', h1, h2, hp, gX⟩
        have q0 : W4.cell? ⟨W.heap.size, 0, none⟩ = some (.int .i64 4) := by rw [cell_of_row _ _ _ _ _ _ gX]; rfl
        have q1 : W4.cell? ⟨W.heap.size, 1, none⟩ = some (.string ⟨#[]⟩) := by rw [cell_of_row _ _ _ _ _ _ gX]; rfl
        have q2 : W4.cell? ⟨W.heap.size, 2, none⟩ = some (.string sv) := by rw [cell_of_row _ _ _ _ _ _ gX]; rfl
        have q3 : W4.cell? ⟨W.heap.size, 3, none⟩ = some (.int .i64 0) := by rw [cell_of_row _ _ _ _ _ _ gX]; rfl
        have q4 : W4.cell? ⟨W.heap.size, 4, none⟩ = some (.slice none 0 0) := by rw [cell_of_row _ _ _ _ _ _ gX]; rfl
        have q5 : W4.cell? ⟨W.heap.size, 5, none⟩ = some (.int .i64 0) := by rw [cell_of_row _ _ _ _ _ _ gX]; rfl
        have KL := Lib.hid (ladd_any ⟨4, ⟨#[]⟩, sv, 0, [], 0⟩ W4 hp.own hp.bw.size (by omega))
        have dz : ((os.length : Int) != (os.length : Int)) = false := by simp
        have HH1 := Lib.hid h1
        have HH2 := Lib.hid h2
        have HP := Lib.hid hp
        clear h1 h2 hp gX x5'
        go_wp2_with fail
        refine KL.out.mono ?_
        rintro e W5 ⟨va', os', rfl, h3, ho, hf, hn⟩
        have HFIN := Lib.hid (add_fin (x := ⟨4, ⟨#[]⟩, sv, 0, [], 0⟩) HST.out (show (1 : Int) ≤ 4 by omega) (by first | exact HSZ.out | exact Nat.zero_le _) HH1.out HH2.out v' HP.out h3 ho hf hn)
        clear h3 ho hf hn KL
        go_wp2
        exact HQ.out _ _ ⟨rfl, rfl, rfl, rfl, v', ns', os', HFIN.out⟩
      · obtain rfl : r = 3 := by omega
        clear h0 h1 h2
        unfold frm277
        rw [e5, e6, e8, e10, e11, e12, e65]
        clear e5 e6 e8 e10 e11 e12 e65
        conv => arg 2; whnf
        go_wp2_with fail
        refine (KA.out 5 sv ⟨#[]⟩ _ _ _ _).mono ?_
        rintro e W4 ⟨rfl, ns', v', h1, h2, hp, gX⟩
        have q0 : W4.cell? ⟨W.heap.size, 0, none⟩ = some (.int .i64 5) := by rw [cell_of_row _ _ _ _ _ _ gX]; rfl
        have q1 : W4.cell? ⟨W.heap.size, 1, none⟩ = some (.string sv) := by rw [cell_of_row _ _ _ _ _ _ gX]; rfl
        have q2 : W4.cell? ⟨W.heap.size, 2, none⟩ = some (.string ⟨#[]⟩) := by rw [cell_of_row _ _ _ _ _ _ gX]; rfl
        have q3 : W4.cell? ⟨W.heap.size, 3, none⟩ = some (.int .i64 0) := by rw [cell_of_row _ _ _ _ _ _ gX]; rfl
        have q4 : W4.cell? ⟨W.heap.size, 4, none⟩ = some (.slice none 0 0) := by rw [cell_of_row _ _ _ _ _ _ gX]; rfl
        have q5 : W4.cell? ⟨W.heap.size, 5, none⟩ = some (.int .i64 0) := by rw [cell_of_row _ _ _ _ _ _ gX]; rfl
        have KL := Lib.hid (ladd_any ⟨5, sv, ⟨#[]⟩, 0, [], 0⟩ W4 hp.own hp.bw.size (by omega))
        have dz : ((os.length : Int) != (os.length : Int)) = false := by simp
        have HH1 := Lib.hid h1
        have HH2 := Lib.hid h2
        have HP := Lib.hid hp
        clear h1 h2 hp gX x5'
        go_wp2_with fail
        refine KL.out.mono ?_
        rintro e W5 ⟨va', os', rfl, h3, ho, hf, hn⟩
        have HFIN := Lib.hid (add_fin (x := ⟨5, sv, ⟨#[]⟩, 0, [], 0⟩) HST.out (show (1 : Int) ≤ 5 by omega) (by first | exact HSZ.out | exact Nat.zero_le _) HH1.out HH2.out v' HP.out h3 ho hf hn)
        clear h3 ho hf hn KL
        go_wp2
        exact HQ.out _ _ ⟨rfl, rfl, rfl, rfl, v', ns', os', HFIN.out⟩
end Go.Proofs.Ytojjdnfkcigdbaa
