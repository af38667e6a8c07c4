/-
  Some texts of one proof, one behind the other.
-/
import Derived.Test.YtnioagojiipjlaaGreatPk0
set_option linter.unusedVariables false
set_option linter.unusedSimpArgs false

/-
  Plain facts on the sums by which one sees that bytes were turned. Nothing of the program stands here.
-/
namespace Go.Proofs.YtnioagojiipjlaaGreat.Mt

/-- One bit falls out of the register. -/
def sh1 (r : Nat) : Nat := if r % 2 = 1 then r / 2 ^^^ 3988292384 else r / 2
def sh : Nat → Nat → Nat
  | 0, r => r
  | k + 1, r => sh1 (sh k r)
/-- One byte. -/
def by1 (r : Nat) (c : UInt8) : Nat := sh 8 (r ^^^ c.toNat)
/-- Bytes, one behind the other. -/
def reg (r : Nat) (l : List UInt8) : Nat := l.foldl by1 r
def full : Nat := 4294967295
/-- The sum of bytes behind those of a sum. -/
def addS (sum : Nat) (l : List UInt8) : Nat := full - reg (full - sum) l

/-- Texts, one behind the other. -/
def cat (ss : List ByteArray) : List UInt8 := (ss.map fun p => p.data.toList).flatten
theorem cat_snoc (ss : List ByteArray) (k : Nat) (h : k < ss.length) : cat (ss.take (k + 1)) = cat (ss.take k) ++ ss[k].data.toList := by
  unfold cat
  rw [List.take_succ_eq_append_getElem h, List.map_append, List.flatten_append]
  congr 1; simp

theorem str_snoc (l : List UInt8) (p : ByteArray) : str l ++ p = str (l ++ p.data.toList) := by
  apply ByteArray.ext
  simp [str]

theorem sh1_lt {r : Nat} (h : r < 4294967296) : sh1 r < 4294967296 := by
  unfold sh1
  split
  · exact Nat.xor_lt_two_pow (n := 32) (by omega) (by omega)
  · omega
theorem sh_lt {r : Nat} (h : r < 4294967296) : ∀ k, sh k r < 4294967296
  | 0 => h
  | k + 1 => sh1_lt (sh_lt h k)
theorem xor_byte_lt {r : Nat} (h : r < 4294967296) (c : UInt8) : r ^^^ c.toNat < 4294967296 := by
  have := c.toNat_lt
  exact Nat.xor_lt_two_pow (n := 32) (by omega) (by omega)
theorem by1_lt {r : Nat} (h : r < 4294967296) (c : UInt8) : by1 r c < 4294967296 := sh_lt (xor_byte_lt h c) 8
theorem reg_lt {r : Nat} (h : r < 4294967296) : ∀ l, reg r l < 4294967296 := by
  intro l
  induction l generalizing r with
  | nil => exact h
  | cons c l ih => exact ih (by1_lt h c)
theorem reg_append (r : Nat) (a b : List UInt8) : reg r (a ++ b) = reg (reg r a) b := by simp [reg]
theorem reg_snoc (r : Nat) (a : List UInt8) (c : UInt8) : reg r (a ++ [c]) = by1 (reg r a) c := by simp [reg]

theorem addS_nil {sum : Nat} (h : sum < 4294967296) : addS sum [] = sum := by
  unfold addS reg full; simp only [List.foldl_nil]; omega
theorem addS_append {sum : Nat} (h : sum < 4294967296) (a b : List UInt8) : addS (addS sum a) b = addS sum (a ++ b) := by
  have hl := reg_lt (r := full - sum) (by unfold full; omega) a
  unfold addS
  rw [reg_append]
  congr 2
  unfold full at *; omega
theorem addS_lt (sum : Nat) (l : List UInt8) : addS sum l < 4294967296 := by unfold addS full; omega

theorem xor_zero_eq {a b : Nat} (h : a ^^^ b = 0) : a = b := by
  have h2 : a ^^^ b ^^^ b = b := by rw [h, Nat.zero_xor]
  rwa [Nat.xor_assoc, Nat.xor_self, Nat.xor_zero] at h2
theorem sh1_xor (a b : Nat) : sh1 (a ^^^ b) = sh1 a ^^^ sh1 b := by
  have hm : (a ^^^ b) % 2 = 1 ↔ ¬ (a % 2 = 1 ↔ b % 2 = 1) := Nat.xor_mod_two_eq_one
  have hd : (a ^^^ b) / 2 = a / 2 ^^^ b / 2 := Nat.xor_div_two
  unfold sh1
  rw [hd]
  generalize a / 2 = x
  generalize b / 2 = y
  generalize 3988292384 = p
  by_cases ha : a % 2 = 1
  · by_cases hb : b % 2 = 1
    · rw [if_neg (by rw [hm]; simp [ha, hb]), if_pos ha, if_pos hb]
      rw [Nat.xor_comm y p, Nat.xor_assoc, ← Nat.xor_assoc p p y, Nat.xor_self, Nat.zero_xor]
    · rw [if_pos (by rw [hm]; simp [ha, hb]), if_pos ha, if_neg hb, Nat.xor_assoc, Nat.xor_assoc, Nat.xor_comm y p]
  · by_cases hb : b % 2 = 1
    · rw [if_pos (by rw [hm]; simp [ha, hb]), if_neg ha, if_pos hb, Nat.xor_assoc]
    · rw [if_neg (by rw [hm]; simp [ha, hb]), if_neg ha, if_neg hb]
theorem sh_xor (a b : Nat) : ∀ k, sh k (a ^^^ b) = sh k a ^^^ sh k b
  | 0 => rfl
  | k + 1 => by simp only [sh]; rw [sh_xor a b k, sh1_xor]
theorem sh1_zero {a : Nat} (h : a < 4294967296) (h0 : sh1 a = 0) : a = 0 := by
  unfold sh1 at h0
  split at h0
  · have : a / 2 = 3988292384 := xor_zero_eq h0
    omega
  · omega
theorem sh_zero {a : Nat} (h : a < 4294967296) : ∀ k, sh k a = 0 → a = 0
  | 0, h0 => h0
  | k + 1, h0 => sh_zero h k (sh1_zero (sh_lt h k) h0)
theorem sh1_twice (x : Nat) : sh1 (2 * x) = x := by
  unfold sh1; rw [if_neg (by omega)]; omega
theorem sh_pow (x : Nat) : ∀ k, sh k (x * 2 ^ k) = x
  | 0 => by simp [sh]
  | k + 1 => by
    have e : x * 2 ^ (k + 1) = (2 * x) * 2 ^ k := by rw [Nat.pow_succ]; ac_rfl
    show sh1 (sh k (x * 2 ^ (k + 1))) = x
    rw [e, sh_pow (2 * x) k, sh1_twice]
theorem sh_sh (k : Nat) (a : Nat) : ∀ j, sh j (sh k a) = sh (k + j) a
  | 0 => rfl
  | j + 1 => by show sh1 (sh j (sh k a)) = sh1 (sh (k + j) a); rw [sh_sh k a j]

theorem by1_xor (r r' : Nat) (c c' : UInt8) : by1 r c ^^^ by1 r' c' = sh 8 ((r ^^^ r') ^^^ (c.toNat ^^^ c'.toNat)) := by
  unfold by1
  rw [← sh_xor]
  congr 1
  rw [Nat.xor_assoc, Nat.xor_assoc]
  congr 1
  rw [← Nat.xor_assoc, Nat.xor_comm c.toNat r', Nat.xor_assoc]

/-- Registers that differ differ behind the same bytes. -/
theorem reg_ne {r r' : Nat} (h : r < 4294967296) (h' : r' < 4294967296) (hne : r ≠ r') : ∀ l, reg r l ≠ reg r' l := by
  intro l
  induction l generalizing r r' with
  | nil => exact hne
  | cons c l ih =>
    refine ih (by1_lt h c) (by1_lt h' c) (fun he => hne ?_)
    have hx : by1 r c ^^^ by1 r' c = 0 := by rw [he, Nat.xor_self]
    rw [by1_xor, Nat.xor_self, Nat.xor_zero] at hx
    exact xor_zero_eq (sh_zero (Nat.xor_lt_two_pow (n := 32) (by omega) (by omega)) 8 hx)

/-- The i-th of the four bytes that are turned. -/
def tb (t i : Nat) : Nat := t / 2 ^ (8 * i) % 256

theorem mod_split (t k : Nat) : t % 2 ^ (k + 8) = t % 2 ^ k ^^^ (t / 2 ^ k % 256) * 2 ^ k := by
  apply Nat.eq_of_testBit_eq
  intro i
  have h256 : (256 : Nat) = 2 ^ 8 := by decide
  rw [Nat.testBit_xor, Nat.testBit_mod_two_pow, Nat.testBit_mod_two_pow, Nat.testBit_mul_two_pow, h256, Nat.testBit_mod_two_pow, Nat.testBit_div_two_pow]
  by_cases h1 : i < k
  · have h2 : ¬ k ≤ i := by omega
    have h3 : i < k + 8 := by omega
    simp [h1, h2, h3]
  · have h2 : k ≤ i := by omega
    have e : i - k + k = i := by omega
    by_cases h3 : i < k + 8
    · have h4 : i - k < 8 := by omega
      simp [h1, h2, h3, h4, e]
    · have h4 : ¬ i - k < 8 := by omega
      simp [h1, h2, h3, h4]

/-- What the registers differ by, behind i of the bytes that are turned. -/
theorem burst_step (t i : Nat) : sh 8 (sh (8 * i) (t % 2 ^ (8 * i)) ^^^ tb t i) = sh (8 * (i + 1)) (t % 2 ^ (8 * (i + 1))) := by
  have e : tb t i = sh (8 * i) (tb t i * 2 ^ (8 * i)) := (sh_pow _ _).symm
  rw [e, ← sh_xor, show 8 * (i + 1) = 8 * i + 8 by omega, mod_split t (8 * i), ← sh_sh]
  rfl

/-- Bytes turned by a number's four. -/
theorem reg_burst {r t : Nat} (ht : t < 4294967296) (h0 : t ≠ 0) (c0 c1 c2 c3 d0 d1 d2 d3 : UInt8)
    (h : d0.toNat = c0.toNat ^^^ tb t 0 ∧ d1.toNat = c1.toNat ^^^ tb t 1 ∧ d2.toNat = c2.toNat ^^^ tb t 2 ∧ d3.toNat = c3.toNat ^^^ tb t 3) :
    reg r [d0, d1, d2, d3] ≠ reg r [c0, c1, c2, c3] := by
  have hx : ∀ {c d : UInt8} {e : Nat}, d.toNat = c.toNat ^^^ e → d.toNat ^^^ c.toNat = e := fun {c d e} h => by
    rw [h, Nat.xor_comm c.toNat e, Nat.xor_assoc, Nat.xor_self, Nat.xor_zero]
  have key : reg r [d0, d1, d2, d3] ^^^ reg r [c0, c1, c2, c3] = sh 32 t := by
    show by1 (by1 (by1 (by1 r d0) d1) d2) d3 ^^^ by1 (by1 (by1 (by1 r c0) c1) c2) c3 = _
    have s0 : by1 r d0 ^^^ by1 r c0 = sh (8 * 1) (t % 2 ^ (8 * 1)) := by
      rw [by1_xor, Nat.xor_self, Nat.zero_xor, hx h.1, ← burst_step t 0]
      simp [sh, Nat.mod_one]
    have s1 : by1 (by1 r d0) d1 ^^^ by1 (by1 r c0) c1 = sh (8 * 2) (t % 2 ^ (8 * 2)) := by
      rw [by1_xor, s0, hx h.2.1, burst_step t 1]
    have s2 : by1 (by1 (by1 r d0) d1) d2 ^^^ by1 (by1 (by1 r c0) c1) c2 = sh (8 * 3) (t % 2 ^ (8 * 3)) := by
      rw [by1_xor, s1, hx h.2.2.1, burst_step t 2]
    rw [by1_xor, s2, hx h.2.2.2, burst_step t 3]
    have e : t % 2 ^ (8 * (3 + 1)) = t := Nat.mod_eq_of_lt (by simpa using ht)
    rw [e]
  intro he
  rw [he, Nat.xor_self] at key
  exact h0 (sh_zero ht 32 key.symm)

end Go.Proofs.YtnioagojiipjlaaGreat.Mt
