/- The shelf's contract of utf8.DecodeRune, laid at this program in plain words. Conditions: none. -/
import Derived.Shelf.Spec.DecodeRune
import Derived.Test.YtnbpkabnaipimaaGreatDoorProg
namespace Go.Proofs
open Go.Shelf
def Tryz.lays732_ren : Go.Shelf.Ren := ⟨fun | 32 => 50 | 49 => 56 | n => n, fun | 30 => 26 | 21 => 21 | 3 => 3 | 0 => 0 | 5 => 5 | 4 => 4 | 33 => 70 | 66 => 88 | 25 => 84 | 69 => 91 | 68 => 90 | n => n, fun | 2 => 2 | 3 => 3 | n => n⟩
theorem Tryz.lays732 : Go.Proofs.Lays7.n32 Tryz.prog Tryz.lays732_ren := {
  mixed := by kernel_rfl
  f32 := Tryz.func50.trans (congrArg some (by kernel_rfl))
  f49 := Tryz.func56.trans (congrArg some (by kernel_rfl))
  t0 := Tryz.underlying0
  a0 := Tryz.isAgg0
  z0 := Tryz.sizeOf0
  v0 := Tryz.zeroValue0
  i0 := by kernel_rfl
  t3 := Tryz.underlying3
  a3 := Tryz.isAgg3
  z3 := Tryz.sizeOf3
  v3 := Tryz.zeroValue3
  i3 := by kernel_rfl
  t4 := Tryz.underlying4
  a4 := Tryz.isAgg4
  z4 := Tryz.sizeOf4
  v4 := Tryz.zeroValue4
  i4 := by kernel_rfl
  t5 := Tryz.underlying5
  a5 := Tryz.isAgg5
  z5 := Tryz.sizeOf5
  v5 := Tryz.zeroValue5
  i5 := by kernel_rfl
  t21 := Tryz.underlying21
  a21 := Tryz.isAgg21
  z21 := Tryz.sizeOf21
  v21 := Tryz.zeroValue21
  i21 := by kernel_rfl
  t25 := Tryz.underlying84
  a25 := Tryz.isAgg84
  z25 := Tryz.sizeOf84
  v25 := Tryz.zeroValue84
  i25 := by kernel_rfl
  t30 := Tryz.underlying26
  a30 := Tryz.isAgg26
  z30 := Tryz.sizeOf26
  v30 := Tryz.zeroValue26
  i30 := by kernel_rfl
  t33 := Tryz.underlying70
  a33 := Tryz.isAgg70
  z33 := Tryz.sizeOf70
  v33 := Tryz.zeroValue70
  i33 := by kernel_rfl
  t66 := Tryz.underlying88
  a66 := Tryz.isAgg88
  z66 := Tryz.sizeOf88
  t68 := Tryz.underlying90
  a68 := Tryz.isAgg90
  z68 := Tryz.sizeOf90
  v68 := Tryz.zeroValue90
  i68 := by kernel_rfl
  t69 := Tryz.underlying91
  a69 := Tryz.isAgg91
  z69 := Tryz.sizeOf91
  v69 := Tryz.zeroValue91
  i69 := by kernel_rfl
  g2 := by kernel_rfl
  g3 := by kernel_rfl }
end Go.Proofs
