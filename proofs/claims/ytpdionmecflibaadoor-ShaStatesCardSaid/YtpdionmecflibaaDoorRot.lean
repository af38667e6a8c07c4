/-
  What sha.right, math/bits.RotateLeft32, and the document's turn come to.
-/
import Derived.Test.YtpdionmecflibaaDoorProg
import Derived.Test.YtpdionmecflibaaDoorShaMath
import Derived.WalkKit
import Derived.Lib.Hide
import Derived.WalkSpells
import Derived.WalkLawsBesides
namespace Go.Proofs.YtpdionmecflibaaDoor
open Go.RowKit

theorem rr_int (n x : Nat) (hx : x < 4294967296) : bits .or .u32 ((x : Int) * 2 ^ (32 - n) % 4294967296) ((x : Int) / 2 ^ n) = ((Mt.rr n x : Nat) : Int) := by
  have h := u32_or_nat ((x * 2 ^ (32 - n)) % 4294967296) (x / 2 ^ n) (Nat.mod_lt _ (by decide)) (Nat.lt_of_le_of_lt (Nat.div_le_self _ _) hx)
  have e1 : ((x * 2 ^ (32 - n) % 4294967296 : Nat) : Int) = (x : Int) * 2 ^ (32 - n) % 4294967296 := by
    rw [Int.natCast_emod, Int.natCast_mul, Int.natCast_pow]; rfl
  have e2 : ((x / 2 ^ n : Nat) : Int) = (x : Int) / 2 ^ n := by
    rw [Int.natCast_ediv, Int.natCast_pow]; rfl
  rw [e1, e2] at h
  exact h
theorem rr_int' (n x : Nat) (hx : x < 4294967296) : bits .or .u32 ((x : Int) / 2 ^ n) ((x : Int) * 2 ^ (32 - n) % 4294967296) = ((Mt.rr n x : Nat) : Int) := by
  have h := u32_or_nat (x / 2 ^ n) ((x * 2 ^ (32 - n)) % 4294967296) (Nat.lt_of_le_of_lt (Nat.div_le_self _ _) hx) (Nat.mod_lt _ (by decide))
  have e1 : ((x * 2 ^ (32 - n) % 4294967296 : Nat) : Int) = (x : Int) * 2 ^ (32 - n) % 4294967296 := by
    rw [Int.natCast_emod, Int.natCast_mul, Int.natCast_pow]; rfl
  have e2 : ((x / 2 ^ n : Nat) : Int) = (x : Int) / 2 ^ n := by
    rw [Int.natCast_ediv, Int.natCast_pow]; rfl
  rw [e1, e2, Nat.or_comm] at h
  exact h

theorem shl_int (x n m : Nat) (h : m = 32 - n) : Op.shift .shl .u32 (x : Int) .u64 (m : Int) = pure (.int .u32 ((x : Int) * 2 ^ (32 - n) % 4294967296)) := by
  subst h
  have e1 : min (((32 - n : Nat) : Int)).toNat 32 = 32 - n := by omega
  rw [shift_shl_any _ _ _ _ (by omega)]
  show pure (Value.int .u32 (IntKind.u32.wrap ((x : Int) * 2 ^ min (((32 - n : Nat) : Int)).toNat 32))) = _
  rw [e1, IntKind.wrap_u32']
theorem shr_int (x n : Nat) (h : n ≤ 32) : Op.shift .shr .u32 (x : Int) .u64 (n : Int) = pure (.int .u32 ((x : Int) / 2 ^ n)) := by
  have e2 : min (((n : Nat) : Int)).toNat 32 = n := by omega
  rw [shift_shr_any _ _ _ _ (by omega)]
  show pure (Value.int .u32 ((x : Int) / 2 ^ min ((n : Nat) : Int).toNat 32)) = _
  rw [e2]

theorem rot_any (x n : Nat) (w : World) (hx : x < 4294967296) (h1 : 1 ≤ n) (h2 : n ≤ 31) :
    Calls Tryd.prog 51 #[.int .u32 x, .int .i64 (-n)] w fun e w' => e = .returned (.int .u32 (Mt.rr n x)) ∧ w = w' := by
  have hm : bits .and .u64 (IntKind.u64.wrap (-(n : Int))) 31 = ((32 - n : Nat) : Int) := by
    have e0 : IntKind.u64.wrap (-(n : Int)) = 18446744073709551616 - (n : Int) := by
      rw [IntKind.wrap_u64]; omega
    rw [e0]
    have h := bits_mask .u64 64 (by decide) (fun n ha hb => by simp [IntKind.wrap, IntKind.bits, IntKind.signed]; omega) 5 (by decide) (18446744073709551616 - (n : Int)) (by omega) (by omega)
    have e : (18446744073709551616 - (n : Int)) % 32 = ((32 - n : Nat) : Int) := by omega
    rw [← e]; simpa using h
  have hs1 := shl_int x n (32 - n) rfl
  have hs2 := shr_int x n (by omega)
  have hsub : (32 - ((32 - n : Nat) : Int)) = (n : Int) := by omega
  have HR := Lib.hid (rr_int n x hx)
  go_enter Tryd.func51, Tryd.ntmps51
  go_wp2
  go_ret
  exact ⟨Mt.ret_int HR.out, rfl⟩

theorem right_any (x n : Nat) (w : World) (hx : x < 4294967296) (h1 : 1 ≤ n) (h2 : n ≤ 31) :
    Calls Tryd.prog 46 #[.int .u32 x, .int .i64 n] w fun e w' => e = .returned (.int .u32 (Mt.rr n x)) ∧ w = w' := by
  have HC := Lib.hid (fun u => rot_any x n u hx h1 h2)
  go_enter Tryd.func46, Tryd.ntmps46
  go_wp2_with fail
  refine (HC.out _).mono ?_
  rintro e w' ⟨rfl, rfl⟩
  go_wp2_with fail
  go_ret
  exact ⟨rfl, rfl⟩

theorem right_q (x n : Nat) (k : Int) (y : Nat) (w : World) (hk : k = n) (hy : Mt.rr n x = y) (hx : x < 4294967296) (h1 : 1 ≤ n) (h2 : n ≤ 31) (m : Nat) :
    Calls Tryd.prog 46 #[.int .u32 x, .int .i64 k] (w.drewN m) fun e w' => e = .returned (.int .u32 y) ∧ ∃ m', w' = w.drewN m' := by
  subst hk hy
  exact (right_any x n (w.drewN m) hx h1 h2).mono fun e w' hh => ⟨hh.1, m, hh.2.symm⟩

theorem and_lt (a b : Nat) (ha : a < 4294967296) : a &&& b < 4294967296 := Nat.lt_of_le_of_lt Nat.and_le_left ha
theorem xor_lt (a b : Nat) (ha : a < 4294967296) (hb : b < 4294967296) : a ^^^ b < 4294967296 := Nat.xor_lt_two_pow (n := 32) (by omega) (by omega)

theorem turn_nat (x : Nat) (h : x < 4294967296) : 4294967295 ^^^ x = 4294967295 - x := by
  have e : (4294967295 : Nat) = 2 ^ 32 - 1 := by decide
  have h' : x < 2 ^ 32 := by simpa using h
  apply Nat.eq_of_testBit_eq
  intro i
  have h3 := Nat.testBit_two_pow_sub_succ h' i
  have e2 : 2 ^ 32 - 1 - x = 2 ^ 32 - (x + 1) := by omega
  rw [e, Nat.testBit_xor, Nat.testBit_two_pow_sub_one, e2, h3]
  by_cases hi : i < 32
  · simp [hi]
  · have : x.testBit i = false := Nat.testBit_lt_two_pow (Nat.lt_of_lt_of_le h' (Nat.pow_le_pow_right (by decide) (by omega)))
    simp [hi, this]
theorem turn_all (x : Nat) (h : x < 4294967296) : bits .xor .u32 IntKind.u32.max (x : Int) = ((4294967295 - x : Nat) : Int) := by
  have h1 := u32_xor_nat 4294967295 x (by omega) h
  have e : IntKind.u32.max = ((4294967295 : Nat) : Int) := by decide
  rw [← turn_nat x h, e, h1]

theorem rturn_any (x n : Nat) (w : World) (hx : x < 4294967296) (h1 : 1 ≤ n) (h2 : n ≤ 31) :
    Calls Tryd.prog 23 #[.int .u32 x, .int .u64 n] w fun e w' => e = .returned (.int .u32 (Mt.rr n x)) ∧ w = w' := by
  have hs1 := shl_int x n (32 - n) rfl
  have hs2 := shr_int x n (by omega)
  have hsub : (32 - (n : Int)) = ((32 - n : Nat) : Int) := by omega
  have HR := Lib.hid (rr_int' n x hx)
  go_enter Tryd.func23, Tryd.ntmps23
  go_wp2
  go_ret
  exact ⟨Mt.ret_int HR.out, rfl⟩

theorem rturn_q (x n : Nat) (k : Int) (y : Nat) (w : World) (hk : k = n) (hy : Mt.rr n x = y) (hx : x < 4294967296) (h1 : 1 ≤ n) (h2 : n ≤ 31) (m : Nat) :
    Calls Tryd.prog 23 #[.int .u32 x, .int .u64 k] (w.drewN m) fun e w' => e = .returned (.int .u32 y) ∧ ∃ m', w' = w.drewN m' := by
  subst hk hy
  exact (rturn_any x n (w.drewN m) hx h1 h2).mono fun e w' hh => ⟨hh.1, m, hh.2.symm⟩

theorem ch_or (e f g : Nat) (he : e < 4294967296) : (e &&& f) ||| ((4294967295 - e) &&& g) = (e &&& f) ^^^ ((4294967295 - e) &&& g) := by
  rw [← turn_nat e he]
  have e1 : (4294967295 : Nat) = 2 ^ 32 - 1 := by decide
  apply Nat.eq_of_testBit_eq
  intro i
  rw [e1, Nat.testBit_or, Nat.testBit_xor, Nat.testBit_and, Nat.testBit_and, Nat.testBit_xor, Nat.testBit_two_pow_sub_one]
  by_cases hi : i < 32
  · cases h : e.testBit i <;> simp [hi]
  · have : e.testBit i = false := Nat.testBit_lt_two_pow (Nat.lt_of_lt_of_le (show e < 2 ^ 32 by omega) (Nat.pow_le_pow_right (by decide) (by omega)))
    simp [hi, this]
theorem mj_or (a b c : Nat) : (a &&& b) ||| (a &&& c) ||| (b &&& c) = (a &&& b) ^^^ (a &&& c) ^^^ (b &&& c) := by
  apply Nat.eq_of_testBit_eq
  intro i
  rw [Nat.testBit_or, Nat.testBit_or, Nat.testBit_xor, Nat.testBit_xor, Nat.testBit_and, Nat.testBit_and, Nat.testBit_and]
  cases a.testBit i <;> cases b.testBit i <;> cases c.testBit i <;> rfl
theorem or_lt (a b : Nat) (ha : a < 4294967296) (hb : b < 4294967296) : a ||| b < 4294967296 := Nat.or_lt_two_pow (n := 32) (by omega) (by omega)

end Go.Proofs.YtpdionmecflibaaDoor
