/- The region of the law OpenStacks that puts a number into the law's own list. -/
import Derived.Test.YtgfjilokpmafpabSr
import Derived.Deep.RegionLaw
import Derived.BigRegion
namespace Go.Proofs.Ytgfjilokpmafpab
open Go.RowKit Go.Shelf Go.Lib

def sub : List Nat → Code → Code
  | [], c => c
  | 0 :: l, .seq a _ => sub l a
  | 1 :: l, .seq _ b => sub l b
  | 2 :: l, .block _ b => sub l b
  | 2 :: l, .loop b => sub l b
  | 3 :: l, .cond _ a _ => sub l a
  | 4 :: l, .cond _ _ b => sub l b
  | _, c => c
/-- a piece of code comes to its end, and there N holds -/
def PN (N : Act → World → Prop) (e : Exit) (a : Act) (w : World) : Prop := match e with
  | .normal => N a w
  | _ => False
noncomputable def r35 : Code := sub [1, 1, 1, 1, 1, 0, 1, 2, 2, 1, 0, 2, 1, 0, 1, 2, 1, 4, 1, 4, 1, 4, 1, 3, 1, 1] (Try.f3.body.getD .skip)
set_option maxRecDepth 100000 in
set_option maxHeartbeats 20000000 in
theorem r35_wp (w4 : World) (N : Act → World → Prop) (ds : List Deferred) (xs : List Int) (bq oq : Nat) (L co kz : Nat) (n : Int) (x0 x1 x2 x3 x5 x7 x8 x10 x11 x12 x13 x14 x15 x16 x17 x18 x19 x20 x21 x22 x23 x24 x25 x26 x27 x28 x29 x30 x31 x32 x33 x34 x35 x36 x37 x38 x39 x40 x41 x42 x43 x44 x45 x46 x47 x48 x49 x50 x51 x52 x53 x54 x55 x56 x57 x58 x59 x60 x61 x62 x63 x64 x65 x66 x67 x68 x69 x70 x71 x72 x73 x74 x75 x76 x77 x78 x79 x80 x81 x82 x83 x84 x85 x86 x87 x88 x89 x90 x91 x92 x93 x94 x95 x96 x97 x98 x99 x100 x101 x102 x103 x104 x105 x106 x107 x108 x109 x110 x111 x112 x113 x114 x115 x116 x117 x118 x119 x120 x121 x122 x123 x124 x125 x126 x127 x128 x129 x130 x131 x132 x133 x134 x135 x136 x137 x138 x139 x140 x141 x142 x143 x144 x145 x146 x147 x148 x149 x150 x151 x152 x153 x154 x155 x156 x157 x158 x159 x160 x161 x162 x163 x164 x165 x166 x167 x168 : Value)
    (hL : xs.length = L) (hlx : L ≤ 60) (hkl : kz ≤ L) (hlc : L ≤ co) (hro : Rd w4 .i64 (some ⟨bq, oq, none⟩) xs)
    (hQ : ∀ (v7 : Value) (w7 : World) (y116 y117 y118 y119 y120 y121 y122 y123 y124 y125 y126 y127 : Value), w7.ownsRow w4.heap.size 3 1 v7 (xs.take kz ++ n :: xs.drop kz).length ((xs.take kz ++ n :: xs.drop kz).map (Value.int .i64)) → Below w4.heap.size w4 w7 → N { tmps := #[x0, x1, x2, x3, v7, x5, (.int .i64 n), x7, x8, (.int .i64 kz), x10, x11, x12, x13, x14, x15, x16, x17, x18, x19, x20, x21, x22, x23, x24, x25, x26, x27, x28, x29, x30, x31, x32, x33, x34, x35, x36, x37, x38, x39, x40, x41, x42, x43, x44, x45, x46, x47, x48, x49, x50, x51, x52, x53, x54, x55, x56, x57, x58, x59, x60, x61, x62, x63, x64, x65, x66, x67, x68, x69, x70, x71, x72, x73, x74, x75, x76, x77, x78, x79, x80, x81, x82, x83, x84, x85, x86, x87, x88, x89, x90, x91, x92, x93, x94, x95, x96, x97, x98, x99, x100, x101, x102, x103, x104, x105, x106, x107, x108, x109, x110, x111, x112, x113, x114, x115, y116, y117, y118, y119, y120, y121, y122, y123, y124, y125, y126, y127, x128, x129, x130, x131, x132, x133, x134, x135, x136, x137, x138, x139, x140, x141, x142, x143, x144, x145, x146, x147, x148, x149, x150, x151, x152, x153, x154, x155, x156, x157, x158, x159, x160, x161, x162, x163, x164, x165, x166, x167, x168], defers := ds } w7) :
    Code.wp Try.prog r35 (PN N) { tmps := #[x0, x1, x2, x3, (.slice (some ⟨bq, oq, none⟩) L co), x5, (.int .i64 n), x7, x8, (.int .i64 kz), x10, x11, x12, x13, x14, x15, x16, x17, x18, x19, x20, x21, x22, x23, x24, x25, x26, x27, x28, x29, x30, x31, x32, x33, x34, x35, x36, x37, x38, x39, x40, x41, x42, x43, x44, x45, x46, x47, x48, x49, x50, x51, x52, x53, x54, x55, x56, x57, x58, x59, x60, x61, x62, x63, x64, x65, x66, x67, x68, x69, x70, x71, x72, x73, x74, x75, x76, x77, x78, x79, x80, x81, x82, x83, x84, x85, x86, x87, x88, x89, x90, x91, x92, x93, x94, x95, x96, x97, x98, x99, x100, x101, x102, x103, x104, x105, x106, x107, x108, x109, x110, x111, x112, x113, x114, x115, x116, x117, x118, x119, x120, x121, x122, x123, x124, x125, x126, x127, x128, x129, x130, x131, x132, x133, x134, x135, x136, x137, x138, x139, x140, x141, x142, x143, x144, x145, x146, x147, x148, x149, x150, x151, x152, x153, x154, x155, x156, x157, x158, x159, x160, x161, x162, x163, x164, x165, x166, x167, x168], defers := ds } w4 := by
  have HQ := Lib.hid hQ
  have HRO4 := Lib.hid hro
  have HC1 : Hid (xs.length ≤ co) := Lib.hid (by omega)
  clear hQ hro
  unfold r35
  conv => arg 2; whnf
  have hba : Below w4.heap.size w4 (w4.drew.alloc (.cells #[] 3)) := (Below.refl _ w4).drew.alloc (Nat.le_refl _) _
  have hbb : Below w4.heap.size w4 ((w4.drew.alloc (.cells #[] 3)).alloc (.cells #[.int .i64 n] 3)) := hba.alloc hba.size _
  have hbc0 : Below w4.heap.size w4 (w4.drew.alloc (.cells #[.int .i64 n] 3)) := (Below.refl _ w4).drew.alloc (Nat.le_refl _) _
  have hbc : Below w4.heap.size w4 ((w4.drew.alloc (.cells #[.int .i64 n] 3)).alloc (.cells #[] 3)) := hbc0.alloc hbc0.size _
  have HBa := Lib.hid hba
  have HBb := Lib.hid hbb
  have HBc := Lib.hid hbc
  have HOWa := Lib.hid (World.ownsRow_lit (base := w4.heap.size) (e := 3) (size := 1) w4.drew #[] 0 (Nat.le_refl _) (by decide) rfl)
  have HOWb : Hid (((w4.drew.alloc (.cells #[] 3)).alloc (.cells #[.int .i64 n] 3)).ownsRow w4.heap.size 3 1 (.slice (some ⟨w4.heap.size, 0, none⟩) 0 0) 0 (([] : List Int).map (Value.int .i64))) := Lib.hid (HOWa.out.alloc _)
  have HOWc : Hid (((w4.drew.alloc (.cells #[.int .i64 n] 3)).alloc (.cells #[] 3)).ownsRow w4.heap.size 3 1 (.slice (some ⟨w4.heap.size + 1, 0, none⟩) 0 0) 0 (([] : List Int).map (Value.int .i64))) := Lib.hid (by
    have := World.ownsRow_lit (base := w4.heap.size) (e := 3) (size := 1) (w4.drew.alloc (.cells #[.int .i64 n] 3)) #[] 0 hbc0.size (by decide) rfl
    rwa [World.size_alloc] at this)
  have HRNb : Hid (Rd ((w4.drew.alloc (.cells #[] 3)).alloc (.cells #[.int .i64 n] 3)) .i64 (some ⟨w4.heap.size + 1, 0, none⟩) [n]) := Lib.hid (by
    have := rd_one (w4.drew.alloc (.cells #[] 3)) n
    rwa [World.size_alloc] at this)
  have HRNc : Hid (Rd ((w4.drew.alloc (.cells #[.int .i64 n] 3)).alloc (.cells #[] 3)) .i64 (some ⟨w4.heap.size, 0, none⟩) [n]) := Lib.hid ((rd_one w4.drew n).below ((Below.refl _ _).alloc (Nat.le_refl _) _))
  clear hba hbb hbc0 hbc
  have hkc : kz ≤ co := by omega
  have hkcI : (kz : Int) ≤ (co : Int) := by omega
  have hknI : (kz : Int) ≤ (L : Int) := by omega
  have HL1 := Lib.hid (show (xs.take kz).length = kz by simp; omega)
  have HRA := Lib.hid (fun (W : World) (h : Below w4.heap.size w4 W) => (rd_takeO (k := kz) HRO4.out).below h)
  have HLL := Lib.hid hL
  clear hL
  by_cases hcap : co = kz
  · have HNIL := Lib.hid (show xs.drop kz = [] from List.drop_eq_nil_of_le (by have := HC1.out; omega))
    have HL22 := Lib.hid (show (xs.drop kz).length = 0 by rw [HNIL.out]; rfl)
    have HRB : Hid (∀ W : World, Rd W .i64 (some ⟨bq, oq, none⟩) (xs.drop kz)) := Lib.hid (fun W => by rw [HNIL.out]; exact .inl rfl)
    have hcl : L ≤ kz := by omega
    subst hcap
    go_region_law (first
      | (refine step_append_rdI (by rfl) _ _ (by rfl) w4.heap.size (.slice (some ⟨w4.heap.size, 0, none⟩) 0 0) 0 [] rfl HOWb.out (some ⟨bq, oq, none⟩) co co rfl (xs.take co) HL1.out (HRA.out _ HBb.out) (fun e => by cases e <;> rfl) (by omega) HBb.out.size ?_; intro v5 w5 hown5 hg5; have hb5 : Below w4.heap.size w4 w5 := HBb.out.grown hg5 HBb.out.size (fun j e => (HOWb.out.lt j e).1); rw [List.nil_append, Nat.zero_add] at hown5; have hrn5 := rd_grown HRNb.out hg5 (fun ad e1 e2 => by cases e1; injection e2 with e2; simp at e2); clear hg5)
      | (refine step_append_rdI (by rfl) _ _ (by rfl) w4.heap.size (.slice (some ⟨w4.heap.size + 1, 0, none⟩) 0 0) 0 [] rfl HOWc.out (some ⟨bq, oq, none⟩) co co rfl (xs.take co) HL1.out (HRA.out _ HBc.out) (fun e => by cases e <;> rfl) (by omega) HBc.out.size ?_; intro v5 w5 hown5 hg5; have hb5 : Below w4.heap.size w4 w5 := HBc.out.grown hg5 HBc.out.size (fun j e => (HOWc.out.lt j e).1); rw [List.nil_append, Nat.zero_add] at hown5; have hrn5 := rd_grown HRNc.out hg5 (fun ad e1 e2 => by cases e1; injection e2 with e2; simp at e2); clear hg5)
      | (refine step_append_rdI (by rfl) _ _ (by rfl) w4.heap.size (.slice (some ⟨w4.heap.size, 0, none⟩) 0 0) 0 [] rfl HOWa.out (some ⟨bq, oq, none⟩) co co rfl (xs.take co) HL1.out (HRA.out _ HBa.out) (fun e => by cases e <;> rfl) (by omega) HBa.out.size ?_; intro v5 w5 hown5 hg5; have hb5 : Below w4.heap.size w4 w5 := HBa.out.grown hg5 HBa.out.size (fun j e => (HOWa.out.lt j e).1); rw [List.nil_append, Nat.zero_add] at hown5; clear hg5)
      | (refine step_append_rdI (by rfl) _ _ (by rfl) w4.heap.size v5 co (xs.take co) rfl hown5 (some ⟨w4.heap.size + 1, 0, none⟩) 1 1 rfl [n] rfl hrn5 (fun e => by cases e) (by omega) hb5.size ?_; intro v6 w6 hown6 hg6; have hb6 : Below w4.heap.size w4 w6 := hb5.grown hg6 hb5.size (fun j e => (hown5.lt j e).1); clear hg6)
      | (refine step_append_rdI (by rfl) _ _ (by rfl) w4.heap.size v5 co (xs.take co) rfl hown5 (some ⟨w4.heap.size, 0, none⟩) 1 1 rfl [n] rfl hrn5 (fun e => by cases e) (by omega) hb5.size ?_; intro v6 w6 hown6 hg6; have hb6 : Below w4.heap.size w4 w6 := hb5.grown hg6 hb5.size (fun j e => (hown5.lt j e).1); clear hg6)
      | (refine step_append_rdI (by rfl) _ _ (by rfl) w4.heap.size v5 co (xs.take co) rfl (own_keep hown5 ((Below.refl _ w5).alloc (Nat.le_refl _) (.cells #[.int .i64 n] 3))) (some ⟨w5.heap.size, 0, none⟩) 1 1 rfl [n] rfl (rd_one w5 n) (fun e => by cases e) (by omega) (hb5.alloc hb5.size (.cells #[.int .i64 n] 3)).size ?_; intro v6 w6 hown6 hg6; have hb6 : Below w4.heap.size w4 w6 := (hb5.alloc hb5.size (.cells #[.int .i64 n] 3)).grown hg6 (hb5.alloc hb5.size (.cells #[.int .i64 n] 3)).size (fun j e => (hown5.lt j e).1); clear hg6)
      | (refine step_append_rdI (by rfl) _ _ (by rfl) w4.heap.size v6 (co + 1) ((xs.take co) ++ [n]) rfl hown6 (some ⟨bq, oq, none⟩) 0 0 rfl (xs.drop co) HL22.out (HRB.out _) (fun e => by cases e <;> rfl) (by omega) hb6.size ?_; intro v7 w7 hown7 hg7; have hb7 : Below w4.heap.size w4 w7 := hb6.grown hg7 hb6.size (fun j e => (hown6.lt j e).1); clear hg7))
    all_goals
      refine HQ.out _ _ _ _ _ _ _ _ _ _ _ _ _ _ ?_ hb7
      have hlen : ((xs.take co) ++ n :: (xs.drop co)).length = co + 1 + 0 := by (rw [List.length_append, List.length_cons, HL1.out, HL22.out]) <;> omega
      rw [hlen]
      rw [List.append_assoc, List.singleton_append] at hown7
      exact hown7
  · have HL22 := Lib.hid (show (xs.drop kz).length = L - kz by rw [List.length_drop, HLL.out])
    have HRB := Lib.hid (fun (W : World) (h : Below w4.heap.size w4 W) => (rd_dropO (k := kz) HRO4.out).below h)
    go_region_law (first
      | (refine step_append_rdI (by rfl) _ _ (by rfl) w4.heap.size (.slice (some ⟨w4.heap.size, 0, none⟩) 0 0) 0 [] rfl HOWb.out (some ⟨bq, oq, none⟩) kz co rfl (xs.take kz) HL1.out (HRA.out _ HBb.out) (fun e => by cases e <;> rfl) (by omega) HBb.out.size ?_; intro v5 w5 hown5 hg5; have hb5 : Below w4.heap.size w4 w5 := HBb.out.grown hg5 HBb.out.size (fun j e => (HOWb.out.lt j e).1); rw [List.nil_append, Nat.zero_add] at hown5; have hrn5 := rd_grown HRNb.out hg5 (fun ad e1 e2 => by cases e1; injection e2 with e2; simp at e2); clear hg5)
      | (refine step_append_rdI (by rfl) _ _ (by rfl) w4.heap.size (.slice (some ⟨w4.heap.size + 1, 0, none⟩) 0 0) 0 [] rfl HOWc.out (some ⟨bq, oq, none⟩) kz co rfl (xs.take kz) HL1.out (HRA.out _ HBc.out) (fun e => by cases e <;> rfl) (by omega) HBc.out.size ?_; intro v5 w5 hown5 hg5; have hb5 : Below w4.heap.size w4 w5 := HBc.out.grown hg5 HBc.out.size (fun j e => (HOWc.out.lt j e).1); rw [List.nil_append, Nat.zero_add] at hown5; have hrn5 := rd_grown HRNc.out hg5 (fun ad e1 e2 => by cases e1; injection e2 with e2; simp at e2); clear hg5)
      | (refine step_append_rdI (by rfl) _ _ (by rfl) w4.heap.size (.slice (some ⟨w4.heap.size, 0, none⟩) 0 0) 0 [] rfl HOWa.out (some ⟨bq, oq, none⟩) kz co rfl (xs.take kz) HL1.out (HRA.out _ HBa.out) (fun e => by cases e <;> rfl) (by omega) HBa.out.size ?_; intro v5 w5 hown5 hg5; have hb5 : Below w4.heap.size w4 w5 := HBa.out.grown hg5 HBa.out.size (fun j e => (HOWa.out.lt j e).1); rw [List.nil_append, Nat.zero_add] at hown5; clear hg5)
      | (refine step_append_rdI (by rfl) _ _ (by rfl) w4.heap.size v5 kz (xs.take kz) rfl hown5 (some ⟨w4.heap.size + 1, 0, none⟩) 1 1 rfl [n] rfl hrn5 (fun e => by cases e) (by omega) hb5.size ?_; intro v6 w6 hown6 hg6; have hb6 : Below w4.heap.size w4 w6 := hb5.grown hg6 hb5.size (fun j e => (hown5.lt j e).1); clear hg6)
      | (refine step_append_rdI (by rfl) _ _ (by rfl) w4.heap.size v5 kz (xs.take kz) rfl hown5 (some ⟨w4.heap.size, 0, none⟩) 1 1 rfl [n] rfl hrn5 (fun e => by cases e) (by omega) hb5.size ?_; intro v6 w6 hown6 hg6; have hb6 : Below w4.heap.size w4 w6 := hb5.grown hg6 hb5.size (fun j e => (hown5.lt j e).1); clear hg6)
      | (refine step_append_rdI (by rfl) _ _ (by rfl) w4.heap.size v5 kz (xs.take kz) rfl (own_keep hown5 ((Below.refl _ w5).alloc (Nat.le_refl _) (.cells #[.int .i64 n] 3))) (some ⟨w5.heap.size, 0, none⟩) 1 1 rfl [n] rfl (rd_one w5 n) (fun e => by cases e) (by omega) (hb5.alloc hb5.size (.cells #[.int .i64 n] 3)).size ?_; intro v6 w6 hown6 hg6; have hb6 : Below w4.heap.size w4 w6 := (hb5.alloc hb5.size (.cells #[.int .i64 n] 3)).grown hg6 (hb5.alloc hb5.size (.cells #[.int .i64 n] 3)).size (fun j e => (hown5.lt j e).1); clear hg6)
      | (refine step_append_rdI (by rfl) _ _ (by rfl) w4.heap.size v6 (kz + 1) ((xs.take kz) ++ [n]) rfl hown6 (some ⟨bq, oq + kz, none⟩) (L - kz) (co - kz) rfl (xs.drop kz) HL22.out (HRB.out _ hb6) (fun e => by cases e <;> rfl) (by omega) hb6.size ?_; intro v7 w7 hown7 hg7; have hb7 : Below w4.heap.size w4 w7 := hb6.grown hg7 hb6.size (fun j e => (hown6.lt j e).1); clear hg7))
    all_goals
      refine HQ.out _ _ _ _ _ _ _ _ _ _ _ _ _ _ ?_ hb7
      have hlen : ((xs.take kz) ++ n :: (xs.drop kz)).length = kz + 1 + (L - kz) := by (rw [List.length_append, List.length_cons, HL1.out, HL22.out]) <;> omega
      rw [hlen]
      rw [List.append_assoc, List.singleton_append] at hown7
      exact hown7
set_option maxRecDepth 100000 in
theorem r35_go (w4 : World) (Q : Exit → Act → World → Prop) (ds : List Deferred) (xs : List Int) (bq oq : Nat) (L co kz : Nat) (n : Int) (x0 x1 x2 x3 x5 x7 x8 x10 x11 x12 x13 x14 x15 x16 x17 x18 x19 x20 x21 x22 x23 x24 x25 x26 x27 x28 x29 x30 x31 x32 x33 x34 x35 x36 x37 x38 x39 x40 x41 x42 x43 x44 x45 x46 x47 x48 x49 x50 x51 x52 x53 x54 x55 x56 x57 x58 x59 x60 x61 x62 x63 x64 x65 x66 x67 x68 x69 x70 x71 x72 x73 x74 x75 x76 x77 x78 x79 x80 x81 x82 x83 x84 x85 x86 x87 x88 x89 x90 x91 x92 x93 x94 x95 x96 x97 x98 x99 x100 x101 x102 x103 x104 x105 x106 x107 x108 x109 x110 x111 x112 x113 x114 x115 x116 x117 x118 x119 x120 x121 x122 x123 x124 x125 x126 x127 x128 x129 x130 x131 x132 x133 x134 x135 x136 x137 x138 x139 x140 x141 x142 x143 x144 x145 x146 x147 x148 x149 x150 x151 x152 x153 x154 x155 x156 x157 x158 x159 x160 x161 x162 x163 x164 x165 x166 x167 x168 : Value)
    (hL : xs.length = L) (hlx : L ≤ 60) (hkl : kz ≤ L) (hlc : L ≤ co) (hro : Rd w4 .i64 (some ⟨bq, oq, none⟩) xs)
    (hQ : ∀ (v7 : Value) (w7 : World) (y116 y117 y118 y119 y120 y121 y122 y123 y124 y125 y126 y127 : Value), w7.ownsRow w4.heap.size 3 1 v7 (xs.take kz ++ n :: xs.drop kz).length ((xs.take kz ++ n :: xs.drop kz).map (Value.int .i64)) → Below w4.heap.size w4 w7 → Q .normal { tmps := #[x0, x1, x2, x3, v7, x5, (.int .i64 n), x7, x8, (.int .i64 kz), x10, x11, x12, x13, x14, x15, x16, x17, x18, x19, x20, x21, x22, x23, x24, x25, x26, x27, x28, x29, x30, x31, x32, x33, x34, x35, x36, x37, x38, x39, x40, x41, x42, x43, x44, x45, x46, x47, x48, x49, x50, x51, x52, x53, x54, x55, x56, x57, x58, x59, x60, x61, x62, x63, x64, x65, x66, x67, x68, x69, x70, x71, x72, x73, x74, x75, x76, x77, x78, x79, x80, x81, x82, x83, x84, x85, x86, x87, x88, x89, x90, x91, x92, x93, x94, x95, x96, x97, x98, x99, x100, x101, x102, x103, x104, x105, x106, x107, x108, x109, x110, x111, x112, x113, x114, x115, y116, y117, y118, y119, y120, y121, y122, y123, y124, y125, y126, y127, x128, x129, x130, x131, x132, x133, x134, x135, x136, x137, x138, x139, x140, x141, x142, x143, x144, x145, x146, x147, x148, x149, x150, x151, x152, x153, x154, x155, x156, x157, x158, x159, x160, x161, x162, x163, x164, x165, x166, x167, x168], defers := ds } w7) :
    Code.wp Try.prog r35 Q { tmps := #[x0, x1, x2, x3, (.slice (some ⟨bq, oq, none⟩) L co), x5, (.int .i64 n), x7, x8, (.int .i64 kz), x10, x11, x12, x13, x14, x15, x16, x17, x18, x19, x20, x21, x22, x23, x24, x25, x26, x27, x28, x29, x30, x31, x32, x33, x34, x35, x36, x37, x38, x39, x40, x41, x42, x43, x44, x45, x46, x47, x48, x49, x50, x51, x52, x53, x54, x55, x56, x57, x58, x59, x60, x61, x62, x63, x64, x65, x66, x67, x68, x69, x70, x71, x72, x73, x74, x75, x76, x77, x78, x79, x80, x81, x82, x83, x84, x85, x86, x87, x88, x89, x90, x91, x92, x93, x94, x95, x96, x97, x98, x99, x100, x101, x102, x103, x104, x105, x106, x107, x108, x109, x110, x111, x112, x113, x114, x115, x116, x117, x118, x119, x120, x121, x122, x123, x124, x125, x126, x127, x128, x129, x130, x131, x132, x133, x134, x135, x136, x137, x138, x139, x140, x141, x142, x143, x144, x145, x146, x147, x148, x149, x150, x151, x152, x153, x154, x155, x156, x157, x158, x159, x160, x161, x162, x163, x164, x165, x166, x167, x168], defers := ds } w4 := by
  refine Code.wp_mono (fun e a w h => ?_) (r35_wp w4 (fun a w => Q .normal a w) ds xs bq oq L co kz n x0 x1 x2 x3 x5 x7 x8 x10 x11 x12 x13 x14 x15 x16 x17 x18 x19 x20 x21 x22 x23 x24 x25 x26 x27 x28 x29 x30 x31 x32 x33 x34 x35 x36 x37 x38 x39 x40 x41 x42 x43 x44 x45 x46 x47 x48 x49 x50 x51 x52 x53 x54 x55 x56 x57 x58 x59 x60 x61 x62 x63 x64 x65 x66 x67 x68 x69 x70 x71 x72 x73 x74 x75 x76 x77 x78 x79 x80 x81 x82 x83 x84 x85 x86 x87 x88 x89 x90 x91 x92 x93 x94 x95 x96 x97 x98 x99 x100 x101 x102 x103 x104 x105 x106 x107 x108 x109 x110 x111 x112 x113 x114 x115 x116 x117 x118 x119 x120 x121 x122 x123 x124 x125 x126 x127 x128 x129 x130 x131 x132 x133 x134 x135 x136 x137 x138 x139 x140 x141 x142 x143 x144 x145 x146 x147 x148 x149 x150 x151 x152 x153 x154 x155 x156 x157 x158 x159 x160 x161 x162 x163 x164 x165 x166 x167 x168 hL hlx hkl hlc hro hQ)
  cases e with
  | normal => exact h
  | _ => exact h.elim
end Go.Proofs.Ytgfjilokpmafpab
