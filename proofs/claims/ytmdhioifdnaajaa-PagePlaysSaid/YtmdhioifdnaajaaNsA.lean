/-
  nest.Copy: its map, where it has one list at most.
-/
import Derived.Test.YtmdhioifdnaajaaTvS
import Derived.Maps.OwnSet
import Derived.Laws.StructEq
import Derived.Deep.RegionHeld3
import Derived.Deep.RegionLaw
import Derived.Deep.CutRange
import Derived.Shelf.Abstract
set_option linter.unusedVariables false
set_option linter.unusedSimpArgs false
namespace Go.Proofs.Ytmdhioifdnaajaa
open Go.RowKit Go.Shelf Go.ChangeMaps Go.MapKept

/-- Where a list stands. -/
def plcV (ad : Addr) (n : Nat) : Value := .agg #[.pointer (some ad), .int .i64 (n : Int)]
theorem ncheck (em : Bool) (ad : Addr) (n : Nat) (w : World) : (Instr.checkKey em 10000 88 (plcV ad n)).run Try.prog w = .ok () w := by
  have hS : Try.prog.underlying 88 = some (.struct (Try.prog.fieldsOf 88)) := by kernel_rfl
  rw [show (10000 : Nat) = 9998 + 1 + 1 from rfl]
  unfold Instr.checkKey plcV
  simp only [Sem.run_bind, run_underlying hS, Result.andThen_ok]
  rw [← Array.forIn_toList]
  have hf : (Try.prog.fieldsOf 88).toList = [⟨"first", 83, 0, false, "", "castellan/nest", 0⟩, ⟨"count", 3, 1, false, "", "castellan/nest", 8⟩] := by kernel_rfl
  rw [hf]
  simp only [List.forIn_cons, List.forIn_nil]
  have u3 := Try.underlying3
  have u9 := Try.underlying83
  unfold Instr.checkKey
  go_simp
theorem Try.zeroNodes (w : World) : (zeroValue 60).run Try.prog w = .ok (.slice none 0 0) w := by kernel_rfl
theorem nfind_nil (k : Value) (w : World) : (Instr.findKey 88 k []).run Try.prog w = .ok none w := by
  have hS : Try.prog.underlying 88 = some (.struct (Try.prog.fieldsOf 88)) := by kernel_rfl
  simp [Instr.findKey, run_underlying hS, Instr.findNow]
/-- Nothing is found in an empty map. -/
theorem nlook {w : World} {mb : Nat} {cl : Nat} (ad : Addr) (n : Nat) (h : w.heap[mb]? = some (.map #[] cl)) : (Instr.lookup 78 (.map (some mb)) (plcV ad n) true).run Try.prog w = .ok (.tuple #[.slice none 0 0, .bool false]) w := by
  simp [Instr.lookup, run_underlying Try.underlying78, MapKept.run_getObj_map h, ncheck, nfind_nil, Try.zeroNodes, Result.andThen]
/-- One list put into an empty map. -/
theorem nput {w : World} {mb : Nat} {cl : Nat} (ad : Addr) (n : Nat) (v : Value) (h : w.heap[mb]? = some (.map #[] cl)) :
    ∃ w', (Instr.mapUpdate 78 (.map (some mb)) (plcV ad n) v).run Try.prog w = .ok () w' ∧ w'.heap[mb]? = some (.map #[{ key := plcV ad n, val := v, born := cl }] (cl + 1)) ∧ OnlyS [mb] w w' := by
  refine ⟨setBlock w mb (.map #[{ key := plcV ad n, val := v, born := cl }] (cl + 1)), ?_, heap_setBlock_same h _, rfl, rfl, rfl, by simp [setBlock], fun k hk hn => heap_setBlock_other h _ (by simpa using hn)⟩
  simp [Instr.mapUpdate, run_underlying Try.underlying78, MapKept.run_getObj_map h, ncheck, nfind_nil, MapKept.run_setObj_map _ h, Result.andThen, setBlock]
theorem Try.szNode0 (w : World) : (sizeOf 62).run Try.prog w = .ok 3 w := by kernel_rfl
theorem nptr (ad : Addr) (w : World) (d : Nat) : (Op.equalIn (d + 1) 83 (.pointer (some ad)) (.pointer (some ad))).run Try.prog w = .ok true w := by
  simp [Op.equalIn, run_underlying Try.underlying83, Try.szNode0 w, sameAddr, Result.andThen]
theorem nsame (ad : Addr) (n : Nat) (w : World) : (Op.equal 88 (plcV ad n) (plcV ad n)).run Try.prog w = .ok true w := by
  have hS : Try.prog.underlying 88 = some (.struct (Try.prog.fieldsOf 88)) := by kernel_rfl
  have hp : Try.prog.stoodInHeld 88 = false := by kernel_rfl
  have u3 := Try.underlying3
  have u9 := Try.underlying83
  have hf : (Try.prog.fieldsOf 88).toList = [⟨"first", 83, 0, false, "", "castellan/nest", 0⟩, ⟨"count", 3, 1, false, "", "castellan/nest", 8⟩] := by kernel_rfl
  unfold Op.equal plcV
  rw [show Op.maxDepth = 9999 + 1 from rfl, run_equalIn_agg w 9999 88 _ _ hS hp, hf]
  have hz := Try.szNode0
  have hps : (Op.equalIn 9999 83 (.pointer (some ad)) (.pointer (some ad))).run Try.prog w = .ok true w := nptr ad w 9998
  go_simp
/-- The one list taken out of a map. -/
theorem ndel {w : World} {mb : Nat} {cl : Nat} (ad : Addr) (n : Nat) (v : Value) (b : Nat) (h : w.heap[mb]? = some (.map #[{ key := plcV ad n, val := v, born := b }] cl)) :
    ∃ w', (∀ ty, (Builtin.delete_ #[78, 88] ty #[.map (some mb), plcV ad n]).run Try.prog w = .ok (.tuple #[]) w') ∧ w'.heap[mb]? = some (.map #[] cl) ∧ OnlyS [mb] w w' := by
  have hS : Try.prog.underlying 88 = some (.struct (Try.prog.fieldsOf 88)) := by kernel_rfl
  have hfk : (Instr.findKey 88 (plcV ad n) [{ key := plcV ad n, val := v, born := b }]).run Try.prog w = .ok (some (0, v)) w := by
    simp [Instr.findKey, run_underlying hS, Instr.findNow, Instr.sameNow, Instr.findAsking, nsame, Result.andThen]
  refine ⟨setBlock w mb (.map #[] cl), fun ty => ?_, heap_setBlock_same h _, rfl, rfl, rfl, by simp [setBlock], fun k hk hn => heap_setBlock_other h _ (by simpa using hn)⟩
  simp [Builtin.delete_, run_underlying Try.underlying78, MapKept.run_getObj_map h, ncheck, hfk, MapKept.run_setObj_map _ h, Result.andThen, setBlock]
end Go.Proofs.Ytmdhioifdnaajaa
