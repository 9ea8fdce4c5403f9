/- The library's contracts of slices.Grow and bytes.Clone, laid at this program. -/
import Derived.Shelf.Spec.SlicesGrow
import Derived.Shelf.Bytes.SlClone
import Derived.Ground.Names8Prog
import Derived.Ground.SlbCloneProg
import Derived.Test.YtanbbomdidefjaaProg
namespace Go.Proofs
open Go.Shelf
def Try.grow28_ren : Go.Shelf.Ren := ⟨fun | 4 => 28 | n => n, fun | 22 => 24 | 25 => 5 | 3 => 3 | 4 => 4 | 9 => 9 | 20 => 20 | 0 => 0 | n => n, fun | n => n⟩
theorem Try.grow28 : Go.Proofs.Lays8.n4 Try.prog Try.grow28_ren := {
  mixed := by kernel_rfl
  f4 := ⟨Try.f28.name, by decide, Try.func28.trans (congrArg some (by kernel_rfl))⟩
  t0 := Try.underlying0
  a0 := Try.isAgg0
  z0 := Try.sizeOf0
  v0 := Try.zeroValue0
  t3 := Try.underlying3
  a3 := Try.isAgg3
  z3 := Try.sizeOf3
  v3 := Try.zeroValue3
  t4 := Try.underlying4
  a4 := Try.isAgg4
  z4 := Try.sizeOf4
  v4 := Try.zeroValue4
  t9 := Try.underlying9
  a9 := Try.isAgg9
  z9 := Try.sizeOf9
  v9 := Try.zeroValue9
  t20 := Try.underlying20
  a20 := Try.isAgg20
  z20 := Try.sizeOf20
  v20 := Try.zeroValue20
  t22 := Try.underlying24
  a22 := Try.isAgg24
  z22 := Try.sizeOf24
  v22 := Try.zeroValue24 }
def Try.bclone15_ren : Go.Shelf.Ren := ⟨fun | 4 => 15 | n => n, fun | 22 => 24 | 4 => 4 | 5 => 5 | n => n, fun | n => n⟩
theorem Try.bclone15 : Go.Proofs.SlLaysK.n4 Try.prog Try.bclone15_ren := {
  mixed := by kernel_rfl
  f4 := Try.func15.trans (congrArg some (by kernel_rfl))
  t4 := Try.underlying4
  a4 := Try.isAgg4
  z4 := Try.sizeOf4
  v4 := Try.zeroValue4
  t22 := Try.underlying24
  a22 := Try.isAgg24
  z22 := Try.sizeOf24
  v22 := Try.zeroValue24
  t5 := Try.underlying5
  i5 := by kernel_rfl }
end Go.Proofs
