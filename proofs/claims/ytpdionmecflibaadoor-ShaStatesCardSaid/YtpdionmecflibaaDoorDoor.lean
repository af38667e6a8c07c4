/-
  What the listed package variables give a walk; and that a world as they ask it is there.
-/
import Derived.Test.YtpdionmecflibaaDoorRows
import Derived.Test.YtpdionmecflibaaDoorTurn
import Derived.ProofKit
import Derived.LaidMore
import Derived.MakeChecks
import Derived.Stop.Joined
import Derived.Lib.LaidTab
namespace Go.Proofs.YtpdionmecflibaaDoor
open Go.ChangeShapes Go.WideShapes Go.ChangeAt Go.RowKit

theorem gFirst : Tryd.prog.globalNamed "castellan/sha.first" = some 0 := by kernel_rfl
theorem gRounds : Tryd.prog.globalNamed "castellan/sha.rounds" = some 1 := by kernel_rfl
theorem tFirst : (Tryd.prog.globals[0]?).map (·.type) = some 57 := by kernel_rfl
theorem tRounds : (Tryd.prog.globals[1]?).map (·.type) = some 71 := by kernel_rfl
theorem c32 : Tryd.prog.cellsOf 53 = 1 := by kernel_rfl
theorem c8 : Tryd.prog.cellsOf 57 = 8 := by kernel_rfl
theorem c64 : Tryd.prog.cellsOf 71 = 64 := by kernel_rfl

/-- The two, as the rows list them. -/
def laid2 : List (String × DataW Unit) := [("castellan/sha.first", Rows.laid_castellan_sha_first), ("castellan/sha.rounds", Rows.laid_castellan_sha_rounds)]

theorem first_tab : (Rows.laid_castellan_sha_first : DataW Unit) = Lib.tabData .u32 (Mt.V0.list.map fun (x : Nat) => (x : Int)) := by rfl
theorem rounds_tab : (Rows.laid_castellan_sha_rounds : DataW Unit) = Lib.tabData .u32 (Mt.K.map fun (x : Nat) => (x : Int)) := by rfl

theorem laid_of {W : World} (h : laidMetH Tryd.prog laid2 W) : Laid W := by
  rw [MakeChecks.laidMetH_plain _ _ _ (by kernel_rfl)] at h
  obtain ⟨ps, ⟨g0, t0, cs0, f0, p0, q0, hg0, ht0, hv0, hd0, ⟨g1, t1, cs1, f1, p1, q1, hg1, ht1, hv1, hd1, _, _⟩, _⟩, _, _⟩ := h
  obtain rfl := Option.some.inj (gFirst.symm.trans hg0)
  obtain rfl := Option.some.inj (gRounds.symm.trans hg1)
  obtain rfl := Option.some.inj (tFirst.symm.trans ht0)
  obtain rfl := Option.some.inj (tRounds.symm.trans ht1)
  rw [first_tab] at hd0
  rw [rounds_tab] at hd1
  have e0 := Lib.cells_of_tab Tryd.underlying57 Tryd.underlying53 c32 c8 hd0
  have e1 := Lib.cells_of_tab Tryd.underlying71 Tryd.underlying53 c32 c64 hd1
  refine ⟨fun i hi => ?_, fun i hi => ?_⟩
  · have h := World.var?_cell hg0 hv0 i
    rw [h]
    have h2 : cs0[i]? = cs0.toList[i]? := by simp
    have hl : i < Mt.V0.list.length := hi
    rw [h2, e0]
    simp [List.getD, List.getElem?_eq_getElem hl]
  · have h := World.var?_cell hg1 hv1 i
    rw [h]
    have h2 : cs1[i]? = cs1.toList[i]? := by simp
    have hl : i < Mt.K.length := hi
    rw [h2, e1]
    simp [List.getD, List.getElem?_eq_getElem hl]

/-- The door's own heap meets the condition. -/
theorem door_met (os : Os) (args : Array Value) : laidMetH Tryd.prog laid2 ((World.doorLaid Tryd.prog 400 os).forCall (fun _ _ => 0) ⟨#[], args, []⟩).memory :=
  laidMetH_of_parts3 (fuel := 8) (laidMet_of_run' 8 (by kernel_rfl) (by kernel_rfl)) (by kernel_rfl) (by kernel_rfl)

end Go.Proofs.YtpdionmecflibaaDoor
