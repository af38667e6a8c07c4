/-
  What the calls tlv.single, constructed, readLength, split and strings.Clone come to.
-/
import Derived.Test.YtmdhioifdnaajaaTx
import Derived.Test.YtmdhioifdnaajaaGet
import Derived.Test.YtmdhioifdnaajaaTvMath
import Derived.Test.YtmdhioifdnaajaaOnly
import Derived.IntWalk
set_option linter.unusedVariables false
set_option linter.unusedSimpArgs false
namespace Go.Proofs.Ytmdhioifdnaajaa
open Go.RowKit

theorem Mt.and31 : ∀ t : Fin 256, bits .and .i64 ((t : Nat) : Int) 31 = ((t % 32 : Nat) : Int) := by decide +kernel
theorem Mt.and32 : ∀ t : Fin 256, bits .and .i64 ((t : Nat) : Int) 32 = (((t / 32 % 2) * 32 : Nat) : Int) := by decide +kernel

theorem single_any (t : Nat) (ht : t < 256) (w : World) : Calls Try.prog 36 #[.int .i64 t] w fun e w' => e = .returned (.bool (decide (t % 32 ≠ 31))) ∧ w = w' := by
  have h := Mt.and31 ⟨t, ht⟩
  simp only at h
  have hx : ((((t % 32 : Nat) : Int)) != 31) = decide (t % 32 ≠ 31) := by
    by_cases e : t % 32 = 31
    · rw [e]; rfl
    · have e2 : (((t % 32 : Nat) : Int)) ≠ 31 := by omega
      rw [decide_eq_true e]; simpa using e2
  generalize ((t % 32 : Nat) : Int) = q at *
  generalize decide (t % 32 ≠ 31) = b at *
  go_enter Try.func36, Try.ntmps36
  go_wp2
  go_ret
  exact ⟨rfl, rfl⟩
theorem constructed_any (t : Nat) (ht : t < 256) (w : World) : Calls Try.prog 37 #[.int .i64 t] w fun e w' => e = .returned (.bool (decide (t / 32 % 2 = 1))) ∧ w = w' := by
  have h := Mt.and32 ⟨t, ht⟩
  simp only at h
  have hx : ((((t / 32 % 2) * 32 : Nat) : Int) != 0) = decide (t / 32 % 2 = 1) := by
    by_cases e : t / 32 % 2 = 1
    · rw [e]; rfl
    · have e2 : t / 32 % 2 = 0 := by omega
      rw [e2]; rfl
  generalize (((t / 32 % 2) * 32 : Nat) : Int) = q at *
  generalize decide (t / 32 % 2 = 1) = b at *
  go_enter Try.func37, Try.ntmps37
  go_wp2
  go_ret
  exact ⟨rfl, rfl⟩

/-- What readLength answers. -/
def lenV : Except Nat (Nat × List UInt8) → Value
  | .error e => .tuple #[.int .i64 0, .string ByteArray.empty, .int .i64 e]
  | .ok (n, x) => .tuple #[.int .i64 n, .string (Mt.str x), .int .i64 0]

end Go.Proofs.Ytmdhioifdnaajaa
