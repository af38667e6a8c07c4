/-
  Plain facts on numbers: a product's halves, roots bit by bit, primes one by one; and that these give the rounds' numbers. Nothing of the program stands here.
-/
import Derived.Test.YtpdionmecflibaaDoorShaMath
namespace Go.Proofs.YtpdionmecflibaaDoor.Mt

def wLow (a b : Nat) : Nat := a % 4294967296 * (b % 4294967296) % 18446744073709551616
def wMid (a b : Nat) : Nat := (a / 4294967296 * (b % 4294967296) + wLow a b / 4294967296) % 18446744073709551616
def wMore (a b : Nat) : Nat := (a % 4294967296 * (b / 4294967296) + wMid a b % 4294967296) % 18446744073709551616
/-- The upper half of a product, and the lower one. -/
def wHi (a b : Nat) : Nat := (a / 4294967296 * (b / 4294967296) + wMid a b / 4294967296 + wMore a b / 4294967296) % 18446744073709551616
def wLo (a b : Nat) : Nat := (wMore a b * 4294967296 + wLow a b % 4294967296) % 18446744073709551616

/-- The bit of a round. -/
def bit (top j : Nat) : Nat := top / 2 ^ j
theorem bit_next (top j : Nat) : bit top j / 2 = bit top (j + 1) := by
  unfold bit
  rw [Nat.div_div_eq_div_mul, Nat.pow_succ]

def rootStep (p b x : Nat) : Nat :=
  if wHi ((x + b) % 18446744073709551616) ((x + b) % 18446744073709551616) < p ∨ (wHi ((x + b) % 18446744073709551616) ((x + b) % 18446744073709551616) = p ∧ wLo ((x + b) % 18446744073709551616) ((x + b) % 18446744073709551616) = 0) then (x + b) % 18446744073709551616 else x
def rootX (p : Nat) : Nat → Nat
  | 0 => 0
  | j + 1 => rootStep p (bit 68719476736 j) (rootX p j)
def rootN (p : Nat) : Nat := rootX p 37 % 4294967296

def cubeC (y : Nat) : Nat := (wHi y y * y + wHi (wLo y y) y) % 18446744073709551616
def cubeB (y : Nat) : Nat := wLo (wLo y y) y
def cubeStep (p b x : Nat) : Nat :=
  if cubeC ((x + b) % 18446744073709551616) < p * 4294967296 % 18446744073709551616 ∨ (cubeC ((x + b) % 18446744073709551616) = p * 4294967296 % 18446744073709551616 ∧ cubeB ((x + b) % 18446744073709551616) = 0) then (x + b) % 18446744073709551616 else x
def cubeX (p : Nat) : Nat → Nat
  | 0 => 0
  | j + 1 => cubeStep p (bit 34359738368 j) (cubeX p j)
def cubeN (p : Nat) : Nat := cubeX p 36 % 4294967296

/-- The primes among 2 .. k + 1. -/
def pl : Nat → List Nat
  | 0 => []
  | k + 1 => if (pl k).all (fun q => (k + 2) % q != 0) then pl k ++ [k + 2] else pl k
theorem pl_mono (k : Nat) : (pl k).length ≤ (pl (k + 1)).length := by
  rw [pl]; split <;> simp
theorem pl_mono' (k d : Nat) : (pl k).length ≤ (pl (k + d)).length := by
  induction d with
  | zero => exact Nat.le_refl _
  | succ d ih => exact Nat.le_trans ih (pl_mono (k + d))
theorem pl_pos (k : Nat) : ∀ q ∈ pl k, 2 ≤ q ∧ q ≤ k + 1 := by
  induction k with
  | zero => simp [pl]
  | succ k ih =>
    intro q hq
    rw [pl] at hq
    split at hq
    · simp only [List.mem_append, List.mem_singleton] at hq
      rcases hq with hq | rfl
      · have := ih q hq; omega
      · omega
    · have := ih q hq; omega

end Go.Proofs.YtpdionmecflibaaDoor.Mt

/-
  The primes and their roots, reckoned out.
-/
namespace Go.Proofs.YtpdionmecflibaaDoor.Mt

set_option maxRecDepth 100000 in
theorem pl_309 : (pl 309).length = 63 := by decide +kernel
set_option maxRecDepth 100000 in
theorem pl_310 : (pl 310).length = 64 := by decide +kernel
set_option maxRecDepth 100000 in
theorem roots : ((pl 310).take 8).map rootN = V0.list := by decide +kernel
set_option maxRecDepth 100000 in
theorem cubes : (pl 310).map cubeN = K := by decide +kernel
theorem pl_63 (k : Nat) (h : k ≤ 309) : (pl k).length ≤ 63 := by
  have h2 := pl_mono' k (309 - k)
  rw [show k + (309 - k) = 309 by omega, pl_309] at h2
  exact h2

end Go.Proofs.YtpdionmecflibaaDoor.Mt
