/- The law's agree: a tree and its own list are the same. -/
import Derived.Test.YtodlcfhkiilpgaaZM
import Derived.Test.YtodlcfhkiilpgaaZN
import Derived.Deep.QuietTactic
import Derived.BigQuiet
namespace Go.Proofs.Ytodlcfhkiilpgaa
open Go.RowKit Go.Shelf Go.Lib
attribute [local go_sem] Oper.semAt_some

theorem rdT_two (w : World) (a b : ByteArray) : RdT (w.alloc (.cells #[.string a, .string b] 9)) (some ⟨w.heap.size, 0, none⟩) [a, b] := by
  refine .inr ⟨w.heap.size, 0, rfl, by rw [World.size_alloc]; omega, fun i x hi => ?_⟩
  match i, hi with
  | 0, hi => simp at hi; subst hi; rw [cell_of_row _ _ _ _ _ _ (heap_alloc_new w _)]; rfl
  | 1, hi => simp at hi; subst hi; rw [cell_of_row _ _ _ _ _ _ (heap_alloc_new w _)]; rfl
  | i + 2, hi => simp at hi
section
variable {w1 : World} {D : Nat} {v : Value} {ns : List Nd} {os : List Ow} {m : Nat} {W : World} {Av : Option Addr} {cv : Nat}
set_option maxRecDepth 100000 in
set_option maxHeartbeats 4000000 in
theorem agree_any (st : St w1 D v ns (.slice Av os.length cv) os m W) (hm : m ≤ 60) :
    Calls Try.prog 23 #[.pointer (some ⟨D, 0, none⟩), .slice Av os.length cv] W fun e W' => e = .returned (.bool true) ∧ Below W.heap.size W W' := by
  have hl2 := st.len2
  have hle := st.len
  obtain ⟨An, cn, hv, _, hmxn, hgn⟩ := st.doc.sl
  have hpos := st.pos
  obtain ⟨gn, rfl, _, _⟩ := hgn (by omega)
  subst hv
  obtain ⟨Ao, co, hv2, _, hmxo, hgo⟩ := st.own.sl
  obtain ⟨go, hAo, _, _⟩ := hgo (by omega)
  injection hv2 with hv2 _ hv3
  subst hAo hv2 hv3
  have c0 := st.doc.cells.1
  have hnl : ((ns.length : Int) != (os.length : Int)) = false := by rw [hl2]; simp
  have HST := Lib.hid st
  have HL2 := Lib.hid hl2
  unfold maxLen at hmxn hmxo
  clear st hgn hgo
  go_enter Try.func23, Try.ntmps23
  go_wp2
  go_loopw [20] (fun jv wr => ∃ j : Nat, j ≤ os.length ∧ jv = .int .i64 j ∧ Hid (Below W.heap.size W wr)) (fun jv _ => os.length - (RowKit.intOf jv).toNat)
  case atStart => exact ⟨0, Nat.zero_le _, rfl, Lib.hid (Below.refl _ W)⟩
  case round =>
    obtain ⟨j, hj, rfl, HB⟩ := hrel
    by_cases hjl : j < os.length
    · have dj : decide ((j : Int) < (os.length : Int)) = true := decide_eq_true (by omega)
      obtain ⟨o, ho⟩ : ∃ o, os[j]? = some o := ⟨_, List.getElem?_eq_getElem hjl⟩
      obtain ⟨x, hx⟩ : ∃ x, ns[j]? = some x := ⟨_, List.getElem?_eq_getElem (by have := HL2.out; omega)⟩
      have hxo : x.pl = o.pl := by
        have h1 : (ns.map Nd.pl)[j]? = some x.pl := by rw [List.getElem?_map, hx]; rfl
        rw [HST.out.eq, List.getElem?_map, ho] at h1
        exact (Option.some.inj h1).symm
      have stw := HST.out.below (HB.out)
      obtain ⟨kd, ekd⟩ : ∃ kd, o.pl.kind = kd := ⟨_, rfl⟩
      obtain ⟨nm, enm⟩ : ∃ nm, o.pl.name = nm := ⟨_, rfl⟩
      obtain ⟨dt, edt⟩ : ∃ dt, o.pl.data = dt := ⟨_, rfl⟩
      obtain ⟨u, eu⟩ : ∃ u, o.pl.up = u := ⟨_, rfl⟩
      obtain ⟨inn, einn⟩ : ∃ inn, o.pl.inner = inn := ⟨_, rfl⟩
      obtain ⟨K, eK⟩ : ∃ K, o.pl.kids = K := ⟨_, rfl⟩
      have xkd : x.kind = kd := by rw [← ekd, ← hxo]; rfl
      have xnm : x.name = nm := by rw [← enm, ← hxo]; rfl
      have xdt : x.data = dt := by rw [← edt, ← hxo]; rfl
      have xu : x.up = u := by rw [← eu, ← hxo]; rfl
      have xin : x.inner = inn := by rw [← einn, ← hxo]; rfl
      have xK : x.kids = K := by rw [← eK, ← hxo]; rfl
      obtain ⟨A1, c1, e1, hKle, hKmx, _, hr⟩ := kid_form stw.own ho
      rw [eK] at e1 hKle hr
      have q0 : wr.cell? ⟨go, j * 6 + 0, none⟩ = some (.int .i64 kd) := by rw [stw.own.cell ho (show 0 < 6 by omega), ← ekd]; rfl
      have q1 : wr.cell? ⟨go, j * 6 + 1, none⟩ = some (.string nm) := by rw [stw.own.cell ho (show 1 < 6 by omega), ← enm]; rfl
      have q2 : wr.cell? ⟨go, j * 6 + 2, none⟩ = some (.string dt) := by rw [stw.own.cell ho (show 2 < 6 by omega), ← edt]; rfl
      have q3 : wr.cell? ⟨go, j * 6 + 3, none⟩ = some (.int .i64 u) := by rw [stw.own.cell ho (show 3 < 6 by omega), ← eu]; rfl
      have q4 : wr.cell? ⟨go, j * 6 + 4, none⟩ = some (.slice A1 K.length c1) := by rw [stw.own.cell ho (show 4 < 6 by omega), ← e1]; rfl
      have q5 : wr.cell? ⟨go, j * 6 + 5, none⟩ = some (.int .i64 inn) := by rw [stw.own.cell ho (show 5 < 6 by omega), ← einn]; rfl
      rw [Nat.add_zero] at q0
      obtain ⟨wb, hwb⟩ : ∃ wb, wr.alloc (.cells #[.int .i64 kd, .string nm, .string dt, .int .i64 u, .slice A1 K.length c1, .int .i64 inn] 57) = wb := ⟨_, rfl⟩
      have hb1 : Below wr.heap.size wr wb := by rw [← hwb]; exact (Below.refl _ wr).alloc (Nat.le_refl _) _
      have gb : wb.heap[wr.heap.size]? = some (.cells #[.int .i64 kd, .string nm, .string dt, .int .i64 u, .slice A1 K.length c1, .int .i64 inn] 57 (0, 0)) := by rw [← hwb]; exact heap_alloc_new wr _
      have stb := stw.below hb1
      have hkj : kdN ns (j : Int) = K := by rw [← xK]; exact atN_some hx
      have hK6 : K.length ≤ os.length := by rw [← xK]; exact stw.kids x (List.mem_of_getElem? hx)
      have KK := Kids_any (j : Int) wb stb.doc (by rw [hkj]; omega)
      rw [hkj] at KK
      replace KK := Lib.hid KK
      have HSTB := Lib.hid stb
      have HGB := Lib.hid gb
      have HB1 := Lib.hid hb1
      have HX := Lib.hid hx
      have HR := Lib.hid (hr.below hb1)
      have XE := Lib.hid (And.intro xkd (And.intro xnm (And.intro xdt (And.intro xu xin))))
      have hsp : x.space = 0 := by
        have := HST.out.rst x.rst (List.mem_map_of_mem (List.mem_of_getElem? hx))
        exact congrArg (fun r => r.1) this
      have HSP := Lib.hid hsp
      have HBW : Hid (Below W.heap.size W wb) := Lib.hid (HB.out.trans (hb1.mono HB.out.size))
      clear ho hx hxo stw ekd enm edt eu einn eK xkd xnm xdt xu xin xK e1 hr hb1 gb stb hkj hsp
      subst hwb
      go_wp2_with fail
      refine KK.out.mono ?_
      rintro e W3 ⟨v3, rfl, ho3, hb3⟩
      obtain ⟨A3, c3, hv3⟩ := own_slice ho3
      subst hv3
      have st3 := HSTB.out.below hb3
      obtain ⟨xkd, xnm, xdt, xu, xin⟩ := XE.out
      have hlt : wr.heap.size < W3.heap.size := by
        have h1 := (Array.getElem?_eq_some_iff.1 HGB.out).1
        exact Nat.lt_of_lt_of_le h1 hb3.size
      have g3 := (hb3.block _ (Array.getElem?_eq_some_iff.1 HGB.out).1).trans HGB.out
      have FX : ∀ wx, Below W3.heap.size W3 wx → wx.cell? ⟨wr.heap.size, 0, none⟩ = some (.int .i64 kd) ∧ wx.cell? ⟨wr.heap.size, 1, none⟩ = some (.string nm) ∧ wx.cell? ⟨wr.heap.size, 4, none⟩ = some (.slice A1 K.length c1) ∧ DocM w1.heap.size D (.slice (some ⟨gn, 0, none⟩) ns.length cn) false ns wx ∧ ∀ o1, (wx.alloc o1).cell? ⟨wr.heap.size, 0, none⟩ = some (.int .i64 kd) := fun wx hb => by
        have gx := (hb.block _ hlt).trans g3
        refine ⟨?_, ?_, ?_, (st3.below hb).doc, fun o1 => ?_⟩
        · rw [cell_of_row _ _ _ _ _ _ gx]; rfl
        · rw [cell_of_row _ _ _ _ _ _ gx]; rfl
        · rw [cell_of_row _ _ _ _ _ _ gx]; rfl
        · rw [cell_of_row _ _ _ _ _ _ ((((Below.refl wx.heap.size wx).alloc (Nat.le_refl _) o1).block _ (Array.getElem?_eq_some_iff.1 gx).1).trans gx)]; rfl
      have FK : ∀ wx, Below W3.heap.size W3 wx → wx.ownsRow (wr.heap.size + 1) 3 1 (.slice A3 K.length c3) K.length (K.map (Value.int .i64)) ∧ Rd wx .i64 A1 K := fun wx hb => ⟨own_keep (own_move ho3 (fun _ _ => rfl) (by simp)) hb, (HR.out.below hb3).below hb⟩
      have p0 : W3.cell? ⟨wr.heap.size, 0, none⟩ = some (.int .i64 kd) := by rw [cell_of_row _ _ _ _ _ _ g3]; rfl
      have p1 : W3.cell? ⟨wr.heap.size, 1, none⟩ = some (.string nm) := by rw [cell_of_row _ _ _ _ _ _ g3]; rfl
      have p2 : W3.cell? ⟨wr.heap.size, 2, none⟩ = some (.string dt) := by rw [cell_of_row _ _ _ _ _ _ g3]; rfl
      have p3 : W3.cell? ⟨wr.heap.size, 3, none⟩ = some (.int .i64 u) := by rw [cell_of_row _ _ _ _ _ _ g3]; rfl
      have p4 : W3.cell? ⟨wr.heap.size, 4, none⟩ = some (.slice A1 K.length c1) := by rw [cell_of_row _ _ _ _ _ _ g3]; rfl
      have p5 : W3.cell? ⟨wr.heap.size, 5, none⟩ = some (.int .i64 inn) := by rw [cell_of_row _ _ _ _ _ _ g3]; rfl
      have n0 := st3.doc.cells.1
      have n2 : W3.cell? ⟨gn, j * 10 + 2, none⟩ = some (.string nm) := by rw [st3.doc.cell HX.out (show 2 < 10 by omega), ← xnm]; rfl
      have n3 : W3.cell? ⟨gn, j * 10 + 3, none⟩ = some (.string dt) := by rw [st3.doc.cell HX.out (show 3 < 10 by omega), ← xdt]; rfl
      have n9 : W3.cell? ⟨gn, j * 10 + 9, none⟩ = some (.int .i64 inn) := by rw [st3.doc.cell HX.out (show 9 < 10 by omega), ← xin]; rfl
      have hjn : j < ns.length := by have := HL2.out; omega
      have KKq : Hid (∀ q, Calls Try.prog 11 #[.pointer (some ⟨D, 0, none⟩), .int .i64 (j : Int)] (W3.drewN q) fun e W' => e = .returned (.int .i64 kd) ∧ W' = W3.drewN q) := Lib.hid (fun q => by
        have h := kind_any (j : Int) (W3.drewN q) (st3.doc.below (below_drewN (Below.refl _ W3) q))
        rw [atN_some HX.out, xkd] at h
        exact h)
      have KUq : Hid (∀ q, Calls Try.prog 12 #[.pointer (some ⟨D, 0, none⟩), .int .i64 (j : Int)] (W3.drewN q) fun e W' => e = .returned (.int .i64 u) ∧ W' = W3.drewN q) := Lib.hid (fun q => by
        have h := up_any (j : Int) (W3.drewN q) (st3.doc.below (below_drewN (Below.refl _ W3) q))
        rw [atN_some HX.out, xu] at h
        exact h)
      have t1 : (kd != kd) = false := by simp
      have t2 : (u != u) = false := by simp
      have t3 : ((K.length : Int) != (K.length : Int)) = false := by simp
      have t4 : (inn != inn) = false := by simp
      have t5 : (dt.toList != dt.toList) = false := by simp
      have t6 : (nm.toList != nm.toList) = false := by simp
      have HFX := Lib.hid FX
      have HFK := Lib.hid FK
      have HBW3 : Hid (Below W.heap.size W W3) := Lib.hid (HBW.out.trans (hb3.mono HBW.out.size))
      clear FX FK g3 hlt st3 ho3 hb3 xkd xnm xdt xu xin KK
      go_wp2_with fail
      go_quiet (first | (go_at_call 11; exact Calls.quiet_of_same (KKq.out _)) | (go_at_call 12; exact Calls.quiet_of_same (KUq.out _)))
      go_wp2
      have XN : Hid (x.kind = kd ∧ x.name = nm) := Lib.hid ⟨XE.out.1, XE.out.2.1⟩
      go_loopw [91] (fun kv wx => ∃ k : Nat, kv = .int .i64 k ∧ k ≤ K.length ∧ Hid (Below W3.heap.size W3 wx)) (fun kv _ => K.length - (RowKit.intOf kv).toNat)
      case atStart => exact ⟨0, rfl, Nat.zero_le _, Lib.hid (below_drewN (Below.refl _ W3) _)⟩
      case round =>
        obtain ⟨k, rfl, hk, HBx⟩ := hrel
        by_cases hkl : k < K.length
        · have dk : decide ((k : Int) < (K.length : Int)) = true := decide_eq_true (by omega)
          have hkl2 : (k : Int) < (K.length : Int) := by omega
          obtain ⟨y, hy⟩ : ∃ y, K[k]? = some y := ⟨_, List.getElem?_eq_getElem hkl⟩
          obtain ⟨_, _, p4, _, _⟩ := HFX.out wr HBx.out
          obtain ⟨r3, r1⟩ := HFK.out wr HBx.out
          obtain ⟨g3, rfl, s3⟩ : ∃ g3, A3 = some ⟨g3, 0, none⟩ ∧ wr.cell? ⟨g3, k, none⟩ = some (.int .i64 y) := by
            rcases r3.2 with ⟨_, h0⟩ | ⟨g3, cap, cur, e, _⟩
            · omega
            · injection e with e _ _
              subst e
              refine ⟨g3, rfl, ?_⟩
              have := r3.cellAt k (by omega)
              rw [List.getElem?_map, hy] at this
              simpa using this
          obtain ⟨b1, f1, rfl, _, hcq⟩ := r1.pos (by omega)
          have s1 : wr.cell? ⟨b1, f1 + k, none⟩ = some (.int .i64 y) := by rw [hcq k hkl, hy]; rfl
          have ty : (y != y) = false := by simp
          have HBq := Lib.hid (fun q => HBx.out.trans (below_drewN (Below.refl W3.heap.size wr) q))
          clear hy r3 r1 hcq
          go_wp2_with fail
          go_quiet (fail)
          go_wp2
          go_roundw
          case rel => exact ⟨k + 1, by go_num, by omega, Lib.hid (HBq.out _)⟩
          case measure => simp [RowKit.intOf]; omega
        · obtain rfl : k = K.length := by omega
          have dk : decide ((K.length : Int) < (K.length : Int)) = false := decide_eq_false (by omega)
          have hkl2 : ¬ (K.length : Int) < (K.length : Int) := by omega
          obtain ⟨p0, p1, _, hdoc, p0'⟩ := HFX.out wr HBx.out
          have hdD := hdoc.below ((Below.refl wr.heap.size wr).drew)
          have KN := name_any (j : Int) wr.drew hdD
          rw [atN_some HX.out] at KN
          have BA := fun o1 => show Below wr.drew.heap.size wr.drew (wr.drew.alloc o1) from (Below.refl _ wr.drew).alloc (Nat.le_refl _) o1
          have KI := is_any (j : Int) [s8P, nm] (some ⟨wr.heap.size, 0, none⟩) 2 (wr.drew.alloc (.cells #[.string s8P, .string nm] 9)) (hdD.below (BA _)) (rdT_two wr.drew s8P nm) (by simp)
          unfold isN at KI
          rw [atN_some HX.out] at KI
          have HBE : Hid (∀ W9, Below wr.drew.heap.size wr.drew W9 → Below W.heap.size W W9) := Lib.hid (fun W9 hb => by
            have h1 : Below W3.heap.size W3 W9 := HBx.out.trans (((Below.refl _ wr).drew.trans hb).mono HBx.out.size)
            exact HBW3.out.trans (h1.mono HBW3.out.size))
          have HBA := Lib.hid (fun o1 => HBE.out _ (BA o1))
          clear hdoc hdD BA
          obtain ⟨xk, xn⟩ := XN.out
          by_cases hkd : kd = 2
          · subst hkd
            have d2 : ((2 : Int) == 2) = true := by decide
            have e1 : nmN x = nm := by unfold nmN; rw [xk, d2, if_pos rfl, xn]
            have e2 : (x.kind == 2 && x.space == 0 && amg [s8P, nm] x.name) = true := by
              rw [xk, HSP.out, xn]
              have : amg [s8P, nm] nm = true := by unfold amg; simp [sm_self]
              rw [this]
              decide
            rw [e1] at KN
            rw [e2] at KI
            replace KN := Lib.hid KN
            replace KI := Lib.hid KI
            have tb : (true != true) = false := by decide
            clear e1 e2 xk xn
            go_wp2_with fail
            go_region_law (first
              | (go_simp; go_at_call 57; refine KN.out.mono ?_; rintro e w9 ⟨rfl, rfl⟩)
              | (go_simp; go_at_call 58; refine KI.out.mono ?_; rintro e w9 ⟨rfl, rfl⟩))
            all_goals
              go_wp2
              go_roundw
              case rel => exact ⟨j + 1, by omega, by go_num, Lib.hid (HBA.out _)⟩
              case measure => simp [RowKit.intOf]; omega
          · have d2 : (kd == 2) = false := by rw [beq_eq_false_iff_ne]; exact hkd
            have e1 : nmN x = ⟨#[]⟩ := by unfold nmN; rw [xk, d2]; rfl
            have e2 : (x.kind == 2 && x.space == 0 && amg [s8P, nm] x.name) = false := by rw [xk, d2]; rfl
            rw [e1] at KN
            rw [e2] at KI
            replace KN := Lib.hid KN
            replace KI := Lib.hid KI
            have tb : (false != false) = false := by decide
            clear e1 e2 xk xn hkd
            go_wp2_with fail
            go_region_law (first
              | (go_simp; go_at_call 57; refine KN.out.mono ?_; rintro e w9 ⟨rfl, rfl⟩)
              | (go_simp; go_at_call 58; refine KI.out.mono ?_; rintro e w9 ⟨rfl, rfl⟩))
            all_goals
              go_wp2
              go_roundw
              case rel => exact ⟨j + 1, by omega, by go_num, Lib.hid (HBA.out _)⟩
              case measure => simp [RowKit.intOf]; omega
    · obtain rfl : j = os.length := by omega
      have dj : decide ((os.length : Int) < (os.length : Int)) = false := decide_eq_false (by omega)
      go_wp2
      go_ret
      exact ⟨rfl, HB.out⟩
end
end Go.Proofs.Ytodlcfhkiilpgaa
