/- The region that puts a name in: a part of the row is taken. -/
import Derived.Test.YtfkbjniodomdjaaDoorQi
import Derived.Deep.RegionLaw
import Derived.BigRegion
namespace Go.Proofs.YtfkbjniodomdjaaDoor
open Go.RowKit Go.Shelf Go.Lib
set_option maxRecDepth 100000 in
set_option maxHeartbeats 20000000 in
theorem r21_b (w4 : World) (N : Act → World → Prop) (ds : List Deferred) (xs : List ByteArray) (bq B O : Nat) (L co kz : Nat) (n : ByteArray) (x0 x1 x2 x3 x4 x5 x7 x8 x10 x11 x13 x14 x15 x16 x17 x18 x19 x20 x21 x22 x23 x24 x25 x26 x27 x28 x29 x30 x31 x32 x33 x34 x35 x36 x37 x38 x39 x40 x41 x42 x43 x44 x45 x46 x47 x48 x49 x50 x51 x52 x53 x54 x55 x56 x57 x58 x59 x60 x61 x62 x63 x64 x65 x66 x67 x68 x69 x70 x71 x72 x73 x74 x75 x76 x77 x78 x79 x80 x81 x82 x83 x84 x85 x86 x87 x88 x89 x90 x91 x92 x93 x94 x95 x96 x97 x98 x99 x100 x101 x102 x103 x104 x105 x106 x107 x108 x109 x110 x111 x112 x113 x114 x115 x116 x117 x118 x119 x120 x121 x122 x123 x124 x125 x126 x127 x128 x129 x130 x131 x132 x133 x134 x135 x136 x137 x138 x139 x140 x141 x142 x143 x144 x145 x146 x147 x148 x149 x150 x151 x152 x153 x154 x155 x156 x157 x158 x159 x160 x161 x162 x163 x164 x165 x166 x167 x168 x169 x170 x171 x172 x173 x174 x175 x176 x177 x178 x179 x180 x181 x182 x183 x184 x185 x186 x187 x188 x189 x190 x191 x192 x193 x194 x195 x196 x197 x198 x199 x200 x201 x202 x203 x204 x205 x206 x207 x208 x209 x210 x211 x212 x213 x214 x215 x216 x217 x218 x219 x220 x221 x222 x223 x224 x225 x226 x227 x228 x229 x230 x231 x232 x233 x234 x235 x236 x237 x238 x239 x240 x241 x242 x243 : Value)
    (hL : xs.length = L) (hlx : L ≤ 60) (hkl : kz ≤ L) (hlc : L ≤ co) (hcap : ¬ co = kz) (hro : RdX w4 (some ⟨bq, 0, none⟩) xs)
    (hbx : w4.heap[B]? = some (.cells #[.slice (some ⟨bq, 0, none⟩) L co] 25 (0, 0))) (hnm : w4.cell? ⟨O, 1, none⟩ = some (.string n))
    (hQ : ∀ (v7 : Value) (w7 : World) (y90 y91 y92 y93 y94 y95 y96 y97 y98 y99 y100 y101 y102 : Value), w7.ownsRow w4.heap.size 9 1 v7 (xs.take kz ++ n :: xs.drop kz).length ((xs.take kz ++ n :: xs.drop kz).map Value.string) → Below w4.heap.size w4 w7 → N { tmps := #[x0, x1, x2, x3, x4, x5, (.pointer (some ⟨B, 0, none⟩)), x7, x8, (.pointer (some ⟨O, 0, none⟩)), x10, x11, (.int .i64 kz), x13, x14, x15, x16, x17, x18, x19, x20, x21, x22, x23, x24, x25, x26, x27, x28, x29, x30, x31, x32, x33, x34, x35, x36, x37, x38, x39, x40, x41, x42, x43, x44, x45, x46, x47, x48, x49, x50, x51, x52, x53, x54, x55, x56, x57, x58, x59, x60, x61, x62, x63, x64, x65, x66, x67, x68, x69, x70, x71, x72, x73, x74, x75, x76, x77, x78, x79, x80, x81, x82, x83, x84, x85, x86, x87, x88, x89, y90, y91, y92, y93, y94, y95, y96, y97, y98, y99, y100, y101, y102, x103, x104, x105, x106, x107, x108, x109, x110, x111, x112, x113, x114, x115, x116, x117, x118, x119, x120, x121, x122, x123, x124, x125, x126, x127, x128, x129, x130, x131, x132, x133, x134, x135, x136, x137, x138, x139, x140, x141, x142, x143, x144, x145, x146, x147, x148, x149, x150, x151, x152, x153, x154, x155, x156, x157, x158, x159, x160, x161, x162, x163, x164, x165, x166, x167, x168, x169, x170, x171, x172, x173, x174, x175, x176, x177, x178, x179, x180, x181, x182, x183, x184, x185, x186, x187, x188, x189, x190, x191, x192, x193, x194, x195, x196, x197, x198, x199, x200, x201, x202, x203, x204, x205, x206, x207, x208, x209, x210, x211, x212, x213, x214, x215, x216, x217, x218, x219, x220, x221, x222, x223, x224, x225, x226, x227, x228, x229, x230, x231, x232, x233, x234, x235, x236, x237, x238, x239, x240, x241, x242, x243], defers := ds } (w7.setCell ⟨B, 0, none⟩ v7)) :
    Code.wp Tryd.prog r21 (PNm N) { tmps := #[x0, x1, x2, x3, x4, x5, (.pointer (some ⟨B, 0, none⟩)), x7, x8, (.pointer (some ⟨O, 0, none⟩)), x10, x11, (.int .i64 kz), x13, x14, x15, x16, x17, x18, x19, x20, x21, x22, x23, x24, x25, x26, x27, x28, x29, x30, x31, x32, x33, x34, x35, x36, x37, x38, x39, x40, x41, x42, x43, x44, x45, x46, x47, x48, x49, x50, x51, x52, x53, x54, x55, x56, x57, x58, x59, x60, x61, x62, x63, x64, x65, x66, x67, x68, x69, x70, x71, x72, x73, x74, x75, x76, x77, x78, x79, x80, x81, x82, x83, x84, x85, x86, x87, x88, x89, x90, x91, x92, x93, x94, x95, x96, x97, x98, x99, x100, x101, x102, x103, x104, x105, x106, x107, x108, x109, x110, x111, x112, x113, x114, x115, x116, x117, x118, x119, x120, x121, x122, x123, x124, x125, x126, x127, x128, x129, x130, x131, x132, x133, x134, x135, x136, x137, x138, x139, x140, x141, x142, x143, x144, x145, x146, x147, x148, x149, x150, x151, x152, x153, x154, x155, x156, x157, x158, x159, x160, x161, x162, x163, x164, x165, x166, x167, x168, x169, x170, x171, x172, x173, x174, x175, x176, x177, x178, x179, x180, x181, x182, x183, x184, x185, x186, x187, x188, x189, x190, x191, x192, x193, x194, x195, x196, x197, x198, x199, x200, x201, x202, x203, x204, x205, x206, x207, x208, x209, x210, x211, x212, x213, x214, x215, x216, x217, x218, x219, x220, x221, x222, x223, x224, x225, x226, x227, x228, x229, x230, x231, x232, x233, x234, x235, x236, x237, x238, x239, x240, x241, x242, x243], defers := ds } w4 := by
  have HQ := Lib.hid hQ
  have HRO4 := Lib.hid hro
  have HC1 : Hid (xs.length ≤ co) := Lib.hid (by omega)
  have hcs : ∀ W, Below w4.heap.size w4 W → W.cell? ⟨B, 0, none⟩ = some (.slice (some ⟨bq, 0, none⟩) L co) ∧ W.cell? ⟨O, 1, none⟩ = some (.string n) ∧ W.frozen? ⟨B, 0, none⟩ = false := by
    intro W hb
    have hB := (hb.block B (Array.getElem?_eq_some_iff.1 hbx).1).trans hbx
    refine ⟨by rw [cell_of_row _ _ _ _ _ _ hB]; rfl, (hb.cell (p := ⟨O, 1, none⟩) (World.block_lt_of_cell? _ ⟨O, 1, none⟩ hnm)).trans hnm, by simp [World.frozen?, hB]⟩
  have HCS := Lib.hid hcs
  clear hQ hro hbx hnm hcs
  unfold r21
  conv => arg 2; whnf
  have hba : Below w4.heap.size w4 (w4.drew.alloc (.cells #[] 9)) := (Below.refl _ w4).drew.alloc (Nat.le_refl _) _
  have hbb : Below w4.heap.size w4 ((w4.drew.alloc (.cells #[] 9)).alloc (.cells #[.string n] 9)) := hba.alloc hba.size _
  have hbc0 : Below w4.heap.size w4 (w4.drew.alloc (.cells #[.string n] 9)) := (Below.refl _ w4).drew.alloc (Nat.le_refl _) _
  have hbc : Below w4.heap.size w4 ((w4.drew.alloc (.cells #[.string n] 9)).alloc (.cells #[] 9)) := hbc0.alloc hbc0.size _
  have HBa := Lib.hid hba
  have HBb := Lib.hid hbb
  have HBc := Lib.hid hbc
  have hka : Below w4.heap.size w4 (w4.alloc (.cells #[] 9)) := (Below.refl _ w4).alloc (Nat.le_refl _) _
  have hkc0 : Below w4.heap.size w4 (w4.alloc (.cells #[.string n] 9)) := (Below.refl _ w4).alloc (Nat.le_refl _) _
  obtain ⟨e00, e01, -⟩ := HCS.out w4 (Below.refl _ w4)
  obtain ⟨ea0, ea1, -⟩ := HCS.out _ hka
  obtain ⟨eb0, eb1, -⟩ := HCS.out _ (hka.alloc hka.size (.cells #[.string n] 9))
  obtain ⟨ed0, ed1, -⟩ := HCS.out _ hkc0
  obtain ⟨ec0, ec1, -⟩ := HCS.out _ (hkc0.alloc hkc0.size (.cells #[] 9))
  clear hka hkc0
  have HOWa := Lib.hid (World.ownsRow_lit (base := w4.heap.size) (e := 9) (size := 1) w4.drew #[] 0 (Nat.le_refl _) (by decide) rfl)
  have HOWb : Hid (((w4.drew.alloc (.cells #[] 9)).alloc (.cells #[.string n] 9)).ownsRow w4.heap.size 9 1 (.slice (some ⟨w4.heap.size, 0, none⟩) 0 0) 0 (([] : List ByteArray).map Value.string)) := Lib.hid (HOWa.out.alloc _)
  have HOWc : Hid (((w4.drew.alloc (.cells #[.string n] 9)).alloc (.cells #[] 9)).ownsRow w4.heap.size 9 1 (.slice (some ⟨w4.heap.size + 1, 0, none⟩) 0 0) 0 (([] : List ByteArray).map Value.string)) := Lib.hid (by
    have := World.ownsRow_lit (base := w4.heap.size) (e := 9) (size := 1) (w4.drew.alloc (.cells #[.string n] 9)) #[] 0 hbc0.size (by decide) rfl
    rwa [World.size_alloc] at this)
  have HRNb : Hid (RdX ((w4.drew.alloc (.cells #[] 9)).alloc (.cells #[.string n] 9)) (some ⟨w4.heap.size + 1, 0, none⟩) [n]) := Lib.hid (by
    have := rdx_one (w4.drew.alloc (.cells #[] 9)) n
    rwa [World.size_alloc] at this)
  have HRNc : Hid (RdX ((w4.drew.alloc (.cells #[.string n] 9)).alloc (.cells #[] 9)) (some ⟨w4.heap.size, 0, none⟩) [n]) := Lib.hid ((rdx_one w4.drew n).below ((Below.refl _ _).alloc (Nat.le_refl _) _))
  clear hba hbb hbc0 hbc
  have hkc : kz ≤ co := by omega
  have hkcI : (kz : Int) ≤ (co : Int) := by omega
  have hknI : (kz : Int) ≤ (L : Int) := by omega
  have HL1 := Lib.hid (show (xs.take kz).length = kz by simp; omega)
  have HRA := Lib.hid (fun (W : World) (h : Below w4.heap.size w4 W) => (rdx_take (k := kz) HRO4.out).below h)
  have HLL := Lib.hid hL
  clear hL
  have HL22 := Lib.hid (show (xs.drop kz).length = L - kz by rw [List.length_drop, HLL.out])
  have HRB := Lib.hid (fun (W : World) (h : Below w4.heap.size w4 W) => (rdx_drop (k := kz) HRO4.out).below h)
  simp only [Nat.zero_add] at HRB
  go_region_law (first
    | (refine step_append_rdS (by rfl) _ _ (by rfl) w4.heap.size (.slice (some ⟨w4.heap.size, 0, none⟩) 0 0) 0 [] rfl HOWb.out (some ⟨bq, 0, none⟩) kz co rfl (xs.take kz) HL1.out (HRA.out _ HBb.out) (fun e => by cases e <;> rfl) (by omega) HBb.out.size ?_; intro v5 w5 hown5 hg5; have hb5 : Below w4.heap.size w4 w5 := HBb.out.grown hg5 HBb.out.size (fun j e => (HOWb.out.lt j e).1); rw [List.nil_append, Nat.zero_add] at hown5; have hrn5 := rdx_grown HRNb.out hg5 (fun ad e1 e2 => by cases e1; injection e2 with e2; simp at e2); obtain ⟨fw50, fw51, fw52⟩ := HCS.out w5 hb5; obtain ⟨g5a, g5b, -⟩ := HCS.out (w5.alloc (.cells #[.string n] 9)) (hb5.alloc hb5.size (.cells #[.string n] 9)); clear hg5)
    | (refine step_append_rdS (by rfl) _ _ (by rfl) w4.heap.size (.slice (some ⟨w4.heap.size + 1, 0, none⟩) 0 0) 0 [] rfl HOWc.out (some ⟨bq, 0, none⟩) kz co rfl (xs.take kz) HL1.out (HRA.out _ HBc.out) (fun e => by cases e <;> rfl) (by omega) HBc.out.size ?_; intro v5 w5 hown5 hg5; have hb5 : Below w4.heap.size w4 w5 := HBc.out.grown hg5 HBc.out.size (fun j e => (HOWc.out.lt j e).1); rw [List.nil_append, Nat.zero_add] at hown5; have hrn5 := rdx_grown HRNc.out hg5 (fun ad e1 e2 => by cases e1; injection e2 with e2; simp at e2); obtain ⟨fw50, fw51, fw52⟩ := HCS.out w5 hb5; obtain ⟨g5a, g5b, -⟩ := HCS.out (w5.alloc (.cells #[.string n] 9)) (hb5.alloc hb5.size (.cells #[.string n] 9)); clear hg5)
    | (refine step_append_rdS (by rfl) _ _ (by rfl) w4.heap.size (.slice (some ⟨w4.heap.size, 0, none⟩) 0 0) 0 [] rfl HOWa.out (some ⟨bq, 0, none⟩) kz co rfl (xs.take kz) HL1.out (HRA.out _ HBa.out) (fun e => by cases e <;> rfl) (by omega) HBa.out.size ?_; intro v5 w5 hown5 hg5; have hb5 : Below w4.heap.size w4 w5 := HBa.out.grown hg5 HBa.out.size (fun j e => (HOWa.out.lt j e).1); rw [List.nil_append, Nat.zero_add] at hown5; obtain ⟨fw50, fw51, fw52⟩ := HCS.out w5 hb5; obtain ⟨g5a, g5b, -⟩ := HCS.out (w5.alloc (.cells #[.string n] 9)) (hb5.alloc hb5.size (.cells #[.string n] 9)); clear hg5)
    | (refine step_append_rdS (by rfl) _ _ (by rfl) w4.heap.size v5 kz (xs.take kz) rfl hown5 (some ⟨w4.heap.size + 1, 0, none⟩) 1 1 rfl [n] rfl hrn5 (fun e => by cases e) (by omega) hb5.size ?_; intro v6 w6 hown6 hg6; have hb6 : Below w4.heap.size w4 w6 := hb5.grown hg6 hb5.size (fun j e => (hown5.lt j e).1); obtain ⟨fw60, fw61, fw62⟩ := HCS.out w6 hb6; clear hg6)
    | (refine step_append_rdS (by rfl) _ _ (by rfl) w4.heap.size v5 kz (xs.take kz) rfl hown5 (some ⟨w4.heap.size, 0, none⟩) 1 1 rfl [n] rfl hrn5 (fun e => by cases e) (by omega) hb5.size ?_; intro v6 w6 hown6 hg6; have hb6 : Below w4.heap.size w4 w6 := hb5.grown hg6 hb5.size (fun j e => (hown5.lt j e).1); obtain ⟨fw60, fw61, fw62⟩ := HCS.out w6 hb6; clear hg6)
    | (refine step_append_rdS (by rfl) _ _ (by rfl) w4.heap.size v5 kz (xs.take kz) rfl (own_keepS hown5 ((Below.refl _ w5).alloc (Nat.le_refl _) (.cells #[.string n] 9))) (some ⟨w5.heap.size, 0, none⟩) 1 1 rfl [n] rfl (rdx_one w5 n) (fun e => by cases e) (by omega) (hb5.alloc hb5.size (.cells #[.string n] 9)).size ?_; intro v6 w6 hown6 hg6; have hb6 : Below w4.heap.size w4 w6 := (hb5.alloc hb5.size (.cells #[.string n] 9)).grown hg6 (hb5.alloc hb5.size (.cells #[.string n] 9)).size (fun j e => (hown5.lt j e).1); obtain ⟨fw60, fw61, fw62⟩ := HCS.out w6 hb6; clear hg6)
    | (refine step_append_rdS (by rfl) _ _ (by rfl) w4.heap.size v6 (kz + 1) ((xs.take kz) ++ [n]) rfl hown6 (some ⟨bq, kz, none⟩) (L - kz) (co - kz) rfl (xs.drop kz) HL22.out (HRB.out _ hb6) (fun e => by cases e <;> rfl) (by omega) hb6.size ?_; intro v7 w7 hown7 hg7; have hb7 : Below w4.heap.size w4 w7 := hb6.grown hg7 hb6.size (fun j e => (hown6.lt j e).1); obtain ⟨fw70, fw71, fw72⟩ := HCS.out w7 hb7; obtain ⟨A7, c7, hv7⟩ := own_slX hown7; subst hv7; clear hg7))
  all_goals
    refine HQ.out _ _ _ _ _ _ _ _ _ _ _ _ _ _ _ ?_ hb7
    have hlen : ((xs.take kz) ++ n :: (xs.drop kz)).length = kz + 1 + (L - kz) := by (rw [List.length_append, List.length_cons, HL1.out, HL22.out]) <;> omega
    rw [hlen]
    rw [List.append_assoc, List.singleton_append] at hown7
    exact hown7
end Go.Proofs.YtfkbjniodomdjaaDoor
