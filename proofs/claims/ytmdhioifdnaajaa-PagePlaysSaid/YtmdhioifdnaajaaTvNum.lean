/-
  Numbers as bytes in two's complement, in plain lists. Nothing of the program stands here.
-/
import Derived.Test.YtmdhioifdnaajaaTvMath
set_option linter.unusedVariables false
set_option linter.unusedSimpArgs false
namespace Go.Proofs.Ytmdhioifdnaajaa.Mt

/-- How many bytes a number takes. -/
def isz (n : Int) : Nat :=
  if -128 ≤ n ∧ n < 128 then 1
  else if -32768 ≤ n ∧ n < 32768 then 2
  else if -8388608 ≤ n ∧ n < 8388608 then 3
  else if -2147483648 ≤ n ∧ n < 2147483648 then 4
  else if -549755813888 ≤ n ∧ n < 549755813888 then 5
  else if -140737488355328 ≤ n ∧ n < 140737488355328 then 6
  else if -36028797018963968 ≤ n ∧ n < 36028797018963968 then 7
  else 8
theorem isz_le (n : Int) : 1 ≤ isz n ∧ isz n ≤ 8 := by unfold isz; (repeat' split) <;> omega
theorem k_cases {k : Nat} (h1 : 1 ≤ k) (h8 : k ≤ 8) : k = 1 ∨ k = 2 ∨ k = 3 ∨ k = 4 ∨ k = 5 ∨ k = 6 ∨ k = 7 ∨ k = 8 := by omega
theorem isz_of_fit (n : Int) (k : Nat) (hk1 : 1 ≤ k) (hk8 : k ≤ 8) (h0 : -(2 ^ (8 * k - 1)) ≤ n) (h1 : n < 2 ^ (8 * k - 1)) : isz n ≤ k := by
  unfold isz
  rcases k_cases hk1 hk8 with rfl | rfl | rfl | rfl | rfl | rfl | rfl | rfl
  all_goals
    simp only [Nat.reduceMul, Nat.reduceSub, Int.reducePow] at h0 h1
    (repeat' split) <;> omega
theorem fit_of_isz (n : Int) (k : Nat) (hk1 : 1 ≤ k) (hk8 : k ≤ 8) (h0 : -9223372036854775808 ≤ n) (h1 : n ≤ 9223372036854775807) (h : isz n = k) : -(2 ^ (8 * k - 1)) ≤ n ∧ n < 2 ^ (8 * k - 1) := by
  unfold isz at h
  rcases k_cases hk1 hk8 with rfl | rfl | rfl | rfl | rfl | rfl | rfl | rfl
  all_goals
    simp only [Nat.reduceMul, Nat.reduceSub, Int.reducePow]
    (repeat' split at h) <;> omega
/-- It fits into k bytes, just where it takes no more. -/
theorem fits_iff (n : Int) (k : Nat) (h0 : -9223372036854775808 ≤ n) (h1 : n ≤ 9223372036854775807) (hk1 : 1 ≤ k) (hk : k ≤ isz n) : n / 2 ^ (8 * k - 1) = n / 9223372036854775808 ↔ k = isz n := by
  have h8 := (isz_le n).2
  have a := isz_of_fit n k hk1 (by omega)
  have b := fit_of_isz n k hk1 (by omega) h0 h1
  generalize isz n = z at *
  rcases k_cases hk1 (by omega) with rfl | rfl | rfl | rfl | rfl | rfl | rfl | rfl
  all_goals
    simp only [Nat.reduceMul, Nat.reduceSub, Int.reducePow] at a b ⊢
    constructor
    · intro h
      have := a (by omega) (by omega)
      omega
    · intro h
      have := b h.symm
      first | omega | trivial
/-- The number of bytes in two's complement. -/
def sgn (l : List UInt8) : Int := if 128 ≤ (l.getD 0 0).toNat then (gn l 0 l.length : Int) - (256 ^ l.length : Nat) else gn l 0 l.length
/-- A number's bytes. -/
def intL (n : Int) : List UInt8 := beU (n % 18446744073709551616).toNat (isz n)
theorem intL_length (n : Int) : (intL n).length = isz n := by simp [intL, beU_length]

theorem getD_beU (N : Nat) : ∀ (k i : Nat), i < k → ((beU N k).getD i 0).toNat = N / 256 ^ (k - 1 - i) % 256
  | 0, i, h => by omega
  | k + 1, 0, h => by simp [beU, UInt8.toNat_ofNat']
  | k + 1, i + 1, h => by
    simp only [beU, List.getD_cons_succ]
    rw [getD_beU N k i (by omega)]
    congr 3
    omega
theorem gn_beU (N : Nat) : ∀ (k j : Nat), j ≤ k → gn (beU N k) 0 j = N / 256 ^ (k - j) % 256 ^ j
  | k, 0, h => by simp [gn, Nat.mod_one]
  | k, j + 1, h => by
    simp only [gn, Nat.zero_add]
    rw [gn_beU N k j (by omega), getD_beU N k j (by omega)]
    have e : k - j = (k - (j + 1)) + 1 := by omega
    have e2 : k - 1 - j = k - (j + 1) := by omega
    rw [e, e2]
    generalize k - (j + 1) = m
    rw [Nat.pow_succ 256 m, Nat.pow_succ 256 j, ← Nat.div_div_eq_div_mul]
    generalize N / 256 ^ m = q
    rw [Nat.mul_comm (256 ^ j) 256, Nat.mod_mul]
    omega
theorem sgn_beU (n : Int) (k : Nat) (h0 : -9223372036854775808 ≤ n) (h1 : n ≤ 9223372036854775807) (hk1 : 1 ≤ k) (hk : k ≤ isz n) : sgn (beU (n % 18446744073709551616).toNat k) = n ↔ k = isz n := by
  have h8 := (isz_le n).2
  obtain ⟨N, hN⟩ : ∃ N : Nat, n % 18446744073709551616 = N := ⟨(n % 18446744073709551616).toNat, by omega⟩
  have hg := gn_beU N k k (Nat.le_refl _)
  have hd := getD_beU N k 0 (by omega)
  have a := isz_of_fit n k hk1 (by omega)
  have b := fit_of_isz n k hk1 (by omega) h0 h1
  unfold sgn
  rw [hN, Int.toNat_natCast, beU_length, hg, hd]
  generalize isz n = z at *
  rcases k_cases hk1 (by omega) with rfl | rfl | rfl | rfl | rfl | rfl | rfl | rfl
  all_goals
    simp only [Nat.reduceMul, Nat.reduceSub, Nat.reducePow, Int.reducePow, Nat.sub_self, Nat.pow_zero, Nat.div_one] at a b ⊢
    constructor
    · intro h
      refine Nat.le_antisymm hk (a ?_ ?_) <;> split at h <;> omega
    · intro h
      have := b h.symm
      split <;> omega
/-- What number bytes are. -/
def numL (l : List UInt8) : Int × Bool := if 1 ≤ l.length ∧ l.length ≤ 8 ∧ intL (sgn l) = l then (sgn l, true) else (0, false)
theorem sgn_range (l : List UInt8) (h1 : 1 ≤ l.length) (h8 : l.length ≤ 8) : -9223372036854775808 ≤ sgn l ∧ sgn l ≤ 9223372036854775807 := by
  obtain ⟨m, hm⟩ : ∃ m, l.length = m + 1 := ⟨l.length - 1, by omega⟩
  have e : ∀ k, k + 1 ≤ l.length → gn l 0 (k + 1) = (l.getD 0 0).toNat * 256 ^ k + gn (l.drop 1) 0 k := by
    intro k
    induction k with
    | zero => intro _; simp [gn]
    | succ k ih =>
      intro hk
      have := ih (by omega)
      simp only [gn, Nat.zero_add] at this ⊢
      rw [this, Nat.pow_succ]
      have hg : (l.drop 1).getD k 0 = l.getD (k + 1) 0 := by simp [List.getD, List.getElem?_drop, Nat.add_comm]
      rw [hg, Nat.mul_add]
      generalize 256 ^ k = p
      have : 256 * ((l.getD 0 0).toNat * p) = (l.getD 0 0).toNat * (p * 256) := by rw [Nat.mul_comm p 256, Nat.mul_left_comm]
      omega
  have hgn := e m (by omega)
  have hlt := gn_lt (l.drop 1) 0 m
  have hc := (l.getD 0 0).toNat_lt
  unfold sgn
  rw [hm, hgn]
  generalize (l.getD 0 0).toNat = c at *
  generalize gn (l.drop 1) 0 m = g at *
  have hm8 : m ≤ 7 := by omega
  obtain rfl | rfl | rfl | rfl | rfl | rfl | rfl | rfl : m = 0 ∨ m = 1 ∨ m = 2 ∨ m = 3 ∨ m = 4 ∨ m = 5 ∨ m = 6 ∨ m = 7 := by omega
  all_goals
    simp only [Nat.reduceAdd, Nat.reducePow] at hlt ⊢
    split <;> omega
theorem intL_inj {a b : Int} (ha0 : -9223372036854775808 ≤ a) (ha1 : a ≤ 9223372036854775807) (h : intL a = intL b) (hb0 : -9223372036854775808 ≤ b) (hb1 : b ≤ 9223372036854775807) : a = b := by
  have e1 := (sgn_beU a (isz a) ha0 ha1 (isz_le a).1 (Nat.le_refl _)).2 rfl
  have e2 := (sgn_beU b (isz b) hb0 hb1 (isz_le b).1 (Nat.le_refl _)).2 rfl
  unfold intL at h
  rw [← e1, ← e2, h]
/-- A number's bytes are read as it. -/
theorem num_int (n : Int) (h0 : -9223372036854775808 ≤ n) (h1 : n ≤ 9223372036854775807) : numL (intL n) = (n, true) := by
  have hs : sgn (intL n) = n := (sgn_beU n (isz n) h0 h1 (isz_le n).1 (Nat.le_refl _)).2 rfl
  unfold numL
  rw [hs, intL_length, if_pos ⟨(isz_le n).1, (isz_le n).2, rfl⟩]

/-- The number of the first so many bytes, the sign being the first one's. -/
def sg (l : List UInt8) (i : Nat) : Int := (gn l 0 i : Int) - (if 128 ≤ (l.getD 0 0).toNat then ((256 ^ i : Nat) : Int) else 0)
theorem sg_zero (l : List UInt8) : sg l 0 = if 128 ≤ (l.getD 0 0).toNat then -1 else 0 := by unfold sg; split <;> simp [gn]
theorem sg_succ (l : List UInt8) (i : Nat) : sg l (i + 1) = sg l i * 256 + ((l.getD i 0).toNat : Int) := by
  unfold sg
  simp only [gn, Nat.zero_add, Nat.pow_succ]
  split
  · rw [Int.natCast_add, Int.natCast_mul, Int.natCast_mul]; omega
  · omega
theorem sg_all (l : List UInt8) : sgn l = sg l l.length := by
  unfold sgn sg
  split
  · rfl
  · omega
theorem gn_head (l : List UInt8) : ∀ k, k + 1 ≤ l.length → gn l 0 (k + 1) = (l.getD 0 0).toNat * 256 ^ k + gn (l.drop 1) 0 k := by
  intro k
  induction k with
  | zero => intro _; simp [gn]
  | succ k ih =>
    intro hk
    have := ih (by omega)
    simp only [gn, Nat.zero_add] at this ⊢
    rw [this, Nat.pow_succ]
    have hg : (l.drop 1).getD k 0 = l.getD (k + 1) 0 := by simp [List.getD, List.getElem?_drop, Nat.add_comm]
    rw [hg, Nat.mul_add]
    generalize 256 ^ k = p
    have : 256 * ((l.getD 0 0).toNat * p) = (l.getD 0 0).toNat * (p * 256) := by rw [Nat.mul_comm p 256, Nat.mul_left_comm]
    omega
set_option maxRecDepth 100000 in
theorem sg_range (l : List UInt8) (i : Nat) (h7 : i ≤ 7) (hl : i ≤ l.length) : -36028797018963968 ≤ sg l i ∧ sg l i ≤ 36028797018963967 := by
  match i with
  | 0 => rw [sg_zero]; split <;> omega
  | m + 1 =>
    have hgn := gn_head l m (by omega)
    have hlt := gn_lt (l.drop 1) 0 m
    have hc := (l.getD 0 0).toNat_lt
    unfold sg
    rw [hgn]
    generalize (l.getD 0 0).toNat = c at *
    generalize gn (l.drop 1) 0 m = g at *
    obtain rfl | rfl | rfl | rfl | rfl | rfl | rfl : m = 0 ∨ m = 1 ∨ m = 2 ∨ m = 3 ∨ m = 4 ∨ m = 5 ∨ m = 6 := by omega
    all_goals
      simp only [Nat.reduceAdd, Nat.reducePow] at hlt ⊢
      split <;> omega
end Go.Proofs.Ytmdhioifdnaajaa.Mt
