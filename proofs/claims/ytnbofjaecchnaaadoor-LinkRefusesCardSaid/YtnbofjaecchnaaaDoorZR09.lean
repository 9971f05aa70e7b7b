/- Parts of the proof, laid end to end. -/
import Derived.Shelf.SlMaps.DeleteFunc
import Derived.Shelf.SlMaps.Clone
import Derived.Test.YtnbofjaecchnaaaDoorProg
namespace Go.Proofs
open Go.Shelf
def Tryd.delM_ren : Go.Shelf.Ren := ⟨fun | 5 => 46 | n => n, fun | 23 => 68 | 26 => 2 | 24 => 3 | 27 => 87 | 0 => 0 | 4 => 4 | n => n, fun | n => n⟩
theorem Tryd.delM : Go.Proofs.SlLaysDf.n5 Tryd.prog Tryd.delM_ren := {
 mixed := by kernel_rfl
 f5 := ⟨Tryd.f46.name, by decide, Tryd.func46.trans (congrArg some (by kernel_rfl))⟩
 t0 := Tryd.underlying0
 a0 := Tryd.isAgg0
 z0 := Tryd.sizeOf0
 v0 := Tryd.zeroValue0
 t4 := Tryd.underlying4
 a4 := Tryd.isAgg4
 z4 := Tryd.sizeOf4
 v4 := Tryd.zeroValue4
 t23 := Tryd.underlying68
 a23 := Tryd.isAgg68
 z23 := Tryd.sizeOf68
 v23 := Tryd.zeroValue68
 a24 := Tryd.isAgg3
 z24 := Tryd.sizeOf3
 a26 := Tryd.isAgg2
 z26 := Tryd.sizeOf2
 t27 := Tryd.underlying87
 a27 := Tryd.isAgg87
 z27 := Tryd.sizeOf87
 v27 := Tryd.zeroValue87 }
def Tryd.cloM_ren : Go.Shelf.Ren := ⟨fun | 5 => 56 | 7 => 62 | n => n, fun | 23 => 68 | 25 => 2 | 3 => 3 | 4 => 4 | 20 => 20 | n => n, fun | n => n⟩
theorem Tryd.cloM : Go.Proofs.SlLaysW.n5 Tryd.prog Tryd.cloM_ren := {
 mixed := by kernel_rfl
 f5 := ⟨Tryd.f56.name, by decide, Tryd.func56.trans (congrArg some (by kernel_rfl))⟩
 f7 := Tryd.func62.trans (congrArg some (by kernel_rfl))
 t4 := Tryd.underlying4
 a4 := Tryd.isAgg4
 z4 := Tryd.sizeOf4
 v4 := Tryd.zeroValue4
 t20 := Tryd.underlying20
 a20 := Tryd.isAgg20
 z20 := Tryd.sizeOf20
 v20 := Tryd.zeroValue20
 t23 := Tryd.underlying68
 a23 := Tryd.isAgg68
 z23 := Tryd.sizeOf68
 v23 := Tryd.zeroValue68 }
end Go.Proofs
