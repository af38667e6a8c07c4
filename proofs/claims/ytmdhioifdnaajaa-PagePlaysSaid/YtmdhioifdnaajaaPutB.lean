/-
  What the document's Put comes to.
-/
import Derived.Test.YtmdhioifdnaajaaPut
set_option linter.unusedVariables false
set_option linter.unusedSimpArgs false
namespace Go.Proofs.Ytmdhioifdnaajaa
open Go.RowKit

set_option maxHeartbeats 400000 in
set_option maxRecDepth 100000 in
theorem rput_yes (n size : Nat) (w : World) (hn : n < 18446744073709551616) (h2 : size ≤ 8) :
    Calls Try.prog 19 #[.int .u64 n, .int .i64 size] w fun e w' => e = .returned (.string (strOfNums (Mt.be n size))) ∧ Below w.heap.size w w' := by
  go_enter Try.func19, Try.ntmps19
  go_wp2
  go_loopw [0, 5, 6] (fun m s i wr => ∃ k : Nat, k ≤ size ∧ i = .int .i64 k ∧ m = .int .u64 ((n / 256 ^ k : Nat) : Int) ∧ s = .string (strOfNums (Mt.be n k)) ∧ Hid (Below w.heap.size w wr))
    (fun _ _ i _ => size - (intOf i).toNat)
  case atStart => exact ⟨0, Nat.zero_le _, rfl, by simp, rfl, Below.refl _ _⟩
  case round =>
    obtain ⟨k, hk, rfl, rfl, rfl, HB⟩ := hrel
    have hq : n / 256 ^ k < 18446744073709551616 := Nat.lt_of_le_of_lt (Nat.div_le_self _ _) hn
    obtain ⟨q, hqe⟩ : ∃ q, n / 256 ^ k = q := ⟨_, rfl⟩
    rw [hqe] at hq ⊢
    have HQ := Lib.hid hqe
    clear hqe
    by_cases hlt : k < size
    · have hcv := conv_one wr ((q : Int) % 256)
      have hsz : (strOfNums [(q : Int) % 256]).size + (strOfNums (Mt.be n k)).size ≤ 9223372036854775807 := by
        rw [strOfNums_size, strOfNums_size, Mt.be_length]; simp; omega
      have hadd := fun wx => run_string_add_sum (w := wx) (P := Try.prog) (strOfNums [(q : Int) % 256]) (strOfNums (Mt.be n k)) hsz
      clear hsz
      go_wp2
      go_roundw
      case rel =>
        refine ⟨k + 1, by omega, by go_num, ?_, ?_, HB.out.alloc HB.out.size _⟩
        · rw [← HQ.out, Nat.pow_succ, ← Nat.div_div_eq_div_mul]; rfl
        · rw [Mt.strOfNums_append, ← HQ.out]; rfl
      case measure => simp [intOf]; omega
    · go_wp2
      go_ret
      obtain rfl : k = size := by omega
      exact ⟨rfl, HB.out⟩


theorem rput_big (n size : Int) (w : World) (h : 8 < size) : Calls Try.prog 19 #[.int .u64 n, .int .i64 size] w fun e w' => e = .returned (.string ByteArray.empty) ∧ w = w' := by
  have h1 : 0 < size := by omega
  have h2 : decide (size ≤ 8) = false := by simp; omega
  go_enter Try.func19, Try.ntmps19
  go_wp2
  refine wp_loop_rounds 1 ?_
  rw [rounds_succ]
  go_wp2
  go_ret
  exact ⟨rfl, rfl⟩

theorem rput_neg (n size : Int) (w : World) (h : size ≤ 0) : Calls Try.prog 19 #[.int .u64 n, .int .i64 size] w fun e w' => e = .returned (.string ByteArray.empty) ∧ w = w' := by
  have h2 : decide (0 < size) = false := by simp; omega
  go_enter Try.func19, Try.ntmps19
  go_wp2
  refine wp_loop_rounds 1 ?_
  rw [rounds_succ]
  go_wp2
  go_ret
  exact ⟨rfl, rfl⟩

end Go.Proofs.Ytmdhioifdnaajaa
