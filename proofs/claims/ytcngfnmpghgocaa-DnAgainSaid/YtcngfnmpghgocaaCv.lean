/-
  []byte(s).
-/
import Derived.Test.YtcngfnmpghgocaaTx
import Derived.Lib.ConvBytes
namespace Go.Proofs.Ytcngfnmpghgocaa
open Go.RowKit
theorem bytes_of9 (s : ByteArray) (w : World) : ∃ (cp : Nat) (w1 : World), (convert 9 59 (.string s)).run Try.prog w = .ok (.slice (some ⟨w.heap.size, 0, none⟩) s.size cp) w1 ∧
    (∀ j, j < s.size → w1.cell? ⟨w.heap.size, j, none⟩ = some (.int .u8 (s.data.toList.getD j 0).toNat)) ∧ (∀ j, j < s.size → w1.frozen? ⟨w.heap.size, j, none⟩ = false) ∧ Below w.heap.size w w1 := by
  refine ⟨grownCap w s.size 0 5, Lib.bytesWorld w 5 s, Lib.run_convert_string_bytes w 9 59 5 s Try.underlying9 Try.underlying59 Try.underlying5, fun j hj => Lib.bytesWorld_cell w 5 s j hj, fun j hj => ?_, ?_⟩
  · have hsz : s.size ≤ (Lib.bytesCells w 5 s).size := by
      unfold Lib.bytesCells
      rw [Array.size_append, Array.size_map]
      exact Nat.le_add_right _ _
    simp only [World.frozen?, Lib.bytesWorld_at_new]
    simp; omega
  · have hsz := Lib.bytesWorld_size w 5 s
    refine ⟨?_, ?_, ?_, by omega, fun k hk => Lib.bytesWorld_at_old w 5 s k hk⟩
    · simp [Lib.bytesWorld, World.freeze, World.alloc, World.drew, -World.alloc_eq, -World.drew_eq]
    · simp [Lib.bytesWorld, World.freeze, World.alloc, World.drew, -World.alloc_eq, -World.drew_eq]
    · simp [Lib.bytesWorld, World.freeze, World.alloc, World.drew, -World.alloc_eq, -World.drew_eq]

end Go.Proofs.Ytcngfnmpghgocaa
