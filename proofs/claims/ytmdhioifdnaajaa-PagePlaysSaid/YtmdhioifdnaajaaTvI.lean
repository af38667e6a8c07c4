/-
  What tlv.Int, Number and Bool come to, and the document's signed, Int and Number.
-/
import Derived.Test.YtmdhioifdnaajaaPutB
import Derived.Test.YtmdhioifdnaajaaTv
import Derived.Test.YtmdhioifdnaajaaTvNum
set_option linter.unusedVariables false
set_option linter.unusedSimpArgs false
namespace Go.Proofs.Ytmdhioifdnaajaa
open Go.RowKit

theorem Mt.u64_wrap (n : Int) : IntKind.u64.wrap n = (((n % 18446744073709551616).toNat : Nat) : Int) := by
  simp [IntKind.wrap, IntKind.bits, IntKind.signed]
  omega

set_option maxRecDepth 100000 in
theorem int_any (n : Int) (w : World) (h0 : -9223372036854775808 ≤ n) (h1 : n ≤ 9223372036854775807) : Calls Try.prog 24 #[.int .i64 n] w fun e w' => e = .returned (.string (Mt.str (Mt.intL n))) ∧ Below w.heap.size w w' := by
  have hz := Mt.isz_le n
  have hw := Mt.u64_wrap n
  have HP := Lib.hid (fun k (hk : 1 ≤ k ∧ k ≤ 8) => put_yes (n % 18446744073709551616).toNat k w hk.1 hk.2)
  have HF := Lib.hid (fun k (hk1 : 1 ≤ k) (hk : k ≤ Mt.isz n) => Mt.fits_iff n k h0 h1 hk1 hk)
  have HS : Hid (Mt.intL n = Mt.beU (n % 18446744073709551616).toNat (Mt.isz n)) := Lib.hid rfl
  generalize (n % 18446744073709551616).toNat = N at *
  generalize Mt.isz n = z at *
  generalize Mt.intL n = L at *
  go_enter Try.func24, Try.ntmps24
  go_wp2_with fail
  go_loop [3] (fun i => ∃ k : Nat, 1 ≤ k ∧ k ≤ z ∧ i = .int .i64 k) (fun i => 8 - (intOf i).toNat)
  case atStart => exact ⟨1, by omega, by omega, rfl⟩
  case round =>
    obtain ⟨k, hk1, hkz, rfl⟩ := hrel
    have hk8 : k ≤ 8 := by omega
    by_cases hk : k = z
    · subst hk
      have ht : (n / 2 ^ (8 * k - 1) != n / 9223372036854775808) = false := by simpa using (HF.out k hk1 hkz).2 rfl
      go_wp2_with fail
      refine (HP.out k ⟨hk1, hk8⟩).mono ?_
      rintro e w' ⟨rfl, hb⟩
      have HB := Lib.hid hb
      clear hb
      go_wp2_with fail
      go_ret
      exact ⟨Mt.ret_str (by rw [HS.out, Mt.str_be]), HB.out⟩
    · have ht : (n / 2 ^ (8 * k - 1) != n / 9223372036854775808) = true := by simpa using fun e => hk ((HF.out k hk1 hkz).1 e)
      go_wp2_with fail
      go_round
      case rel => exact ⟨k + 1, by omega, by omega, by go_num⟩
      case measure => simp [intOf]; omega

/-- What Number answers. -/
def numV (l : List UInt8) : Value := .tuple #[.int .i64 (Mt.numL l).1, .bool (Mt.numL l).2]

set_option maxRecDepth 100000 in
theorem Mt.sgn_shift (l : List UInt8) (k : Nat) (hk : l.length = k) (h1 : 1 ≤ k) (h8 : k ≤ 8) : wrap64 (IntKind.u64.wrap ((Mt.gn l 0 k : Int) * 2 ^ (64 - 8 * k))) / 2 ^ (64 - 8 * k) = Mt.sgn l := by
  obtain ⟨m, rfl⟩ : ∃ m, k = m + 1 := ⟨k - 1, by omega⟩
  have hgn := Mt.gn_head l m (by omega)
  have hlt := Mt.gn_lt (l.drop 1) 0 m
  have hc := (l.getD 0 0).toNat_lt
  unfold Mt.sgn
  rw [hk, hgn, Mt.u64_wrap]
  generalize (l.getD 0 0).toNat = c at *
  generalize Mt.gn (l.drop 1) 0 m = g at *
  clear hgn hk
  obtain rfl | rfl | rfl | rfl | rfl | rfl | rfl | rfl : m = 0 ∨ m = 1 ∨ m = 2 ∨ m = 3 ∨ m = 4 ∨ m = 5 ∨ m = 6 ∨ m = 7 := by omega
  all_goals
    simp only [Nat.reduceAdd, Nat.reduceMul, Nat.reduceSub, Nat.reducePow, Int.reducePow, wrap64] at hlt ⊢
    split <;> omega

end Go.Proofs.Ytmdhioifdnaajaa
