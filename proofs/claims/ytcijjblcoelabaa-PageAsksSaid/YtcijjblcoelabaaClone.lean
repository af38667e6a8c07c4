/-
  The contract of internal/stringslite.Clone at this translation: numbers and rows of the table, in plain words.
-/
import Derived.Shelf.Pu.Clone
import Derived.Ground.MpProg
import Derived.Test.YtcijjblcoelabaaProg
set_option linter.unusedVariables false
set_option linter.unusedSimpArgs false
namespace Go.Proofs
open Go.Shelf
def Try.lays25_ren : Go.Shelf.Ren := ⟨fun | 25 => 100 | n => n, fun | 9 => 9 | 3 => 3 | 4 => 4 | 37 => 122 | 0 => 0 | 47 => 164 | 5 => 5 | n => n, fun | n => n⟩
theorem Try.lays25 : Go.Proofs.LaysPu.n25 Try.prog Try.lays25_ren := {
  mixed := by kernel_rfl
  f25 := Try.func100.trans (congrArg some (by kernel_rfl))
  t0 := Try.underlying0
  a0 := Try.isAgg0
  z0 := Try.sizeOf0
  v0 := Try.zeroValue0
  i0 := by kernel_rfl
  t3 := Try.underlying3
  a3 := Try.isAgg3
  z3 := Try.sizeOf3
  v3 := Try.zeroValue3
  i3 := by kernel_rfl
  t4 := Try.underlying4
  a4 := Try.isAgg4
  z4 := Try.sizeOf4
  v4 := Try.zeroValue4
  i4 := by kernel_rfl
  t5 := Try.underlying5
  a5 := Try.isAgg5
  z5 := Try.sizeOf5
  v5 := Try.zeroValue5
  i5 := by kernel_rfl
  t9 := Try.underlying9
  a9 := Try.isAgg9
  z9 := Try.sizeOf9
  v9 := Try.zeroValue9
  i9 := by kernel_rfl
  t37 := Try.underlying122
  a37 := Try.isAgg122
  z37 := Try.sizeOf122
  v37 := Try.zeroValue122
  i37 := by kernel_rfl
  t47 := Try.underlying164
  a47 := Try.isAgg164
  z47 := Try.sizeOf164
  v47 := Try.zeroValue164
  i47 := by kernel_rfl }
end Go.Proofs
