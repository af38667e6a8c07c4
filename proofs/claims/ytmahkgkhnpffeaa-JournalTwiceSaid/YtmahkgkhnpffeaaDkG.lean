/-
  What sector and Blank come to; the chapter's examples of disks: they are met.
-/
import Derived.Test.YtmahkgkhnpffeaaDkF
namespace Go.Proofs.Ytmahkgkhnpffeaa
open Go.RowKit Go.Maps

theorem conv_zero (w : World) (n : Nat) (hn : n ≤ 1000000) : (convert 48 9 (.slice (some ⟨w.heap.size, 0, none⟩) n n)).run Try.prog (w.alloc (.cells (Array.replicate n (.int .u8 0)) 5)) = .ok (.string (Mt.str (List.replicate n 0))) (w.alloc (.cells (Array.replicate n (.int .u8 0)) 5)) := by
  have h := run_convert_bytes_back (P := Try.prog) (w.alloc (.cells (Array.replicate n (.int .u8 0)) 5)) 48 9 5 ⟨w.heap.size, 0, none⟩ n (List.replicate n 0) Try.underlying48 Try.underlying5 Try.underlying9 (fun j hj => by
    rw [List.length_replicate] at hj
    rw [add_off, Nat.zero_add, cell_of_row _ _ _ _ _ _ (heap_alloc_new _ _)]
    simp [hj])
  rw [List.length_replicate] at h
  exact h
theorem make_zero (w : World) (n : Nat) (hn : n ≤ 1000000) : (Instr.makeSlice 48 (.int .i64 (n : Int)) (.int .i64 (n : Int))).run Try.prog w = .ok (.slice (some ⟨w.heap.size, 0, none⟩) n n) (w.alloc (.cells (Array.replicate n (.int .u8 0)) 5)) := by
  obtain ⟨i, hi, hz, hs, hb⟩ := info_parts Try.infoU8
  have h := run_make (P := Try.prog) w 48 5 i _ Try.underlying48 hi hz .i64 .i64 (n : Int) (n : Int) (by omega) (Int.le_refl _) (by rw [hb]; omega) (by omega)
  rw [Int.toNat_natCast, hs, Nat.mul_one] at h
  have e : madeCells (Value.int .u8 0).cells n = Array.replicate n (.int .u8 0) := made_all _ _ _ 1 rfl (by decide) (fun j hj => by
    obtain rfl : j = 0 := by omega
    rfl)
  rw [e] at h
  exact h
end Go.Proofs.Ytmahkgkhnpffeaa
