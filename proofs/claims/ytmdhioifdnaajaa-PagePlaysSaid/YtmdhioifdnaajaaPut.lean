/-
  What the calls octet.fits and octet.Put come to, at every input: contracts, walked over the program's text.
-/
import Derived.Test.YtmdhioifdnaajaaProg
import Derived.Test.YtmdhioifdnaajaaMath
import Derived.WalkKit
import Derived.Lib.Hide
import Derived.WalkSpells
import Derived.WalkLawsBesides
set_option linter.unusedVariables false
set_option linter.unusedSimpArgs false
namespace Go.Proofs.Ytmdhioifdnaajaa
open Go.RowKit

theorem Try.info5 : (Try.prog.info? 5).map (fun i => (i.zero, i.size, i.bytes)) = some (some (.int .u8 0), 1, 1) := by kernel_rfl

theorem fits_yes (n : Int) (w : World) (h1 : 1 ≤ n) (h2 : n ≤ 8) : Calls Try.prog 25 #[.int .i64 n] w fun e w' => e = .returned (.bool true) ∧ w = w' := by
  go_enter Try.func25, Try.ntmps25
  go_wp2
  go_ret
  exact ⟨rfl, rfl⟩

theorem fits_no (n : Int) (w : World) (h : n < 1 ∨ 8 < n) : Calls Try.prog 25 #[.int .i64 n] w fun e w' => e = .returned (.bool false) ∧ w = w' := by
  rcases h with h | h
  · go_enter Try.func25, Try.ntmps25
    go_wp2
    go_ret
    exact ⟨rfl, rfl⟩
  · have h1 : 1 ≤ n := by omega
    have h2 : decide (n ≤ 8) = false := by simp; omega
    go_enter Try.func25, Try.ntmps25
    go_wp2
    go_ret
    exact ⟨rfl, rfl⟩

theorem put_no (n size : Int) (w : World) (h : size < 1 ∨ 8 < size) : Calls Try.prog 16 #[.int .u64 n, .int .i64 size] w fun e w' => e = .returned (.string ByteArray.empty) ∧ w = w' := by
  go_enter Try.func16, Try.ntmps16
  go_wp2_with (go_at_call 25; refine (fits_no _ _ h).mono ?_; rintro e w' ⟨rfl, rfl⟩)
  go_ret
  exact ⟨rfl, rfl⟩

set_option maxHeartbeats 400000 in
theorem put_yes (n size : Nat) (w : World) (h1 : 1 ≤ size) (h2 : size ≤ 8) :
    Calls Try.prog 16 #[.int .u64 n, .int .i64 size] w fun e w' => e = .returned (.string (strOfNums (Mt.be n size))) ∧ Below w.heap.size w w' := by
  obtain ⟨i0, hi, hz0, hz1, hz2⟩ := info_parts Try.info5
  go_enter Try.func16, Try.ntmps16
  go_wp2_with (first | (go_at_call 25; refine (fits_yes _ _ (by omega) (by omega)).mono ?_; rintro e w' ⟨rfl, rfl⟩) | (at_make; refine wpList_make_full _ rfl _ _ 67 rfl w.heap.size 5 i0 (.int .u8 0) 1 Try.underlying67 hi hz0 hz1 .i64 .i64 _ _ size rfl rfl rfl rfl (by rw [hz2]; omega) (by unfold maxLen; omega) (Nat.le_refl _) ?_; intro w1 hown hgr))
  have hb1 : Hid (Below w.heap.size w w1) := (Below.refl _ _).grown hgr (Nat.le_refl _) (fun k hk => by cases hk)
  have hown1 : w1.ownsRow w.heap.size 5 1 (.slice (some ⟨w.heap.size, 0, none⟩) size size) size ((Mt.pad n size 0).map (Value.int .u8)) := by
    rw [Mt.pad_zero, List.map_replicate]; simpa [toList_madeCells_one, Value.cells] using hown
  clear hown hgr hi hz0 hz1 hz2
  go_loopw [13] (fun i wr => ∃ k : Nat, k ≤ size ∧ i = .int .i64 k ∧ wr.ownsRow w.heap.size 5 1 (.slice (some ⟨w.heap.size, 0, none⟩) size size) size ((Mt.pad n size k).map (Value.int .u8)) ∧ Hid (Below w.heap.size w wr))
    (fun i _ => size - (intOf i).toNat)
  case atStart => exact ⟨0, Nat.zero_le _, rfl, hown1, hb1⟩
  case round =>
    obtain ⟨k, hk, rfl, hown, HB⟩ := hrel
    by_cases hlt : k < size
    · have hcell : wr.cell? ⟨w.heap.size, size - 1 - k, none⟩ = some (.int .u8 ((Mt.pad n size k).getD (size - 1 - k) 0)) := by
        rw [hown.cellAt _ (by omega)]
        have hl := Mt.pad_length n size k hk
        simp [List.getD, List.getElem?_eq_getElem (show size - 1 - k < (Mt.pad n size k).length by omega)]
      have hfz := hown.frozenAt (size - 1 - k)
      go_wp2
      go_roundw
      case rel =>
        have e : (Value.int IntKind.u8 ((n : Int) / 2 ^ (8 * k) % 256)) = .int .u8 ((n / 256 ^ k % 256 : Nat) : Int) := by
          rw [Mt.byte_of]
        rw [e]
        refine ⟨k + 1, by omega, by go_num, ?_, Below.setCell HB.out (Nat.le_refl _) _⟩
        have := (hown.stored (size - 1 - k) (.int .u8 ((n / 256 ^ k % 256 : Nat) : Int))).1
        rwa [Mt.map_set_int, Mt.pad_succ n size k hlt] at this
      case measure => simp [intOf]; omega
    · have hcv := run_convert_bytes_arg (P := Try.prog) wr 67 5 Try.underlying67 Try.underlying5 w.heap.size 0 size size (Mt.pad n size k) (Mt.pad_length n size k hk) (fun i hi => by
        rw [Nat.zero_add, hown.cellAt _ (by omega)]
        have hl := Mt.pad_length n size k hk
        simp [List.getD, List.getElem?_eq_getElem (show i < (Mt.pad n size k).length by omega)]) 9 Try.underlying9
      go_wp2
      go_ret
      obtain rfl : k = size := by omega
      exact ⟨Mt.ret_str (by rw [Mt.pad_full]), HB.out⟩


theorem conv_one (wr : World) (x : Int) : (convert 67 9 (.slice (some ⟨wr.heap.size, 0, none⟩) 1 1)).run Try.prog (wr.alloc (.cells #[.int .u8 x] 5)) =
    .ok (.string (strOfNums [x])) (wr.alloc (.cells #[.int .u8 x] 5)) :=
  run_convert_bytes_arg (P := Try.prog) _ 67 5 Try.underlying67 Try.underlying5 wr.heap.size 0 1 1 [x] rfl (fun i hi => by
    obtain rfl : i = 0 := by omega
    have h := cell_one_new wr (.int .u8 x) 5 0 (.int .u8 x) rfl
    exact h) 9 Try.underlying9

end Go.Proofs.Ytmdhioifdnaajaa
