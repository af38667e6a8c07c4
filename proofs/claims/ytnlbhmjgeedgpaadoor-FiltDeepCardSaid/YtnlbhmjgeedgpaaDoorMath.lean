/-
  Plain facts on numbers, lists of numbers and texts of bytes that the proofs of this seat lean on. Nothing of the program stands here.
-/
import Derived.WalkKit
import Derived.Laws.BytesArg
set_option linter.unusedVariables false
set_option linter.unusedSimpArgs false
namespace Go.Proofs.YtnlbhmjgeedgpaaDoor.Mt

/-- The k lowest bytes of n, the highest first. -/
def be (n : Nat) : Nat → List Int
  | 0 => []
  | k + 1 => ((n / 256 ^ k % 256 : Nat) : Int) :: be n k

theorem be_length (n : Nat) : ∀ k, (be n k).length = k
  | 0 => rfl
  | k + 1 => by simp [be, be_length n k]

/-- What lies in the slice behind k rounds. -/
def pad (n size k : Nat) : List Int := List.replicate (size - k) 0 ++ be n k

theorem pad_length (n size k : Nat) (h : k ≤ size) : (pad n size k).length = size := by
  simp [pad, be_length]; omega

theorem pad_zero (n size : Nat) : pad n size 0 = List.replicate size 0 := by simp [pad, be]
theorem pad_full (n size : Nat) : pad n size size = be n size := by simp [pad]

theorem pad_succ (n size k : Nat) (h : k < size) :
    (pad n size k).set (size - 1 - k) ((n / 256 ^ k % 256 : Nat) : Int) = pad n size (k + 1) := by
  unfold pad
  have e : size - k = (size - (k + 1)) + 1 := by omega
  have e2 : size - 1 - k = size - (k + 1) := by omega
  rw [e, List.replicate_succ', e2, List.append_assoc, List.set_append_right _ _ (by simp)]
  simp [be]

theorem map_set_int (k : IntKind) (l : List Int) (j : Nat) (x : Int) : (l.map (Value.int k)).set j (.int k x) = (l.set j x).map (Value.int k) := by
  rw [List.map_set]

theorem byte_of (n k : Nat) : (n : Int) / 2 ^ (8 * k) % 256 = ((n / 256 ^ k % 256 : Nat) : Int) := by
  have h : (2 : Nat) ^ (8 * k) = 256 ^ k := by rw [Nat.pow_mul]
  have h2 : (2 : Int) ^ (8 * k) = ((256 ^ k : Nat) : Int) := by rw [← h]; simp
  rw [h2]; omega

/-- A half byte's digit. -/
def dg (n : Nat) : Int := if n < 10 then ((48 + n : Nat) : Int) else ((87 + n : Nat) : Int)

/-- The digits of bytes. -/
def hex : List UInt8 → List Int
  | [] => []
  | c :: r => dg (c.toNat / 16) :: dg (c.toNat % 16) :: hex r

theorem hex_append : ∀ (a b : List UInt8), hex (a ++ b) = hex a ++ hex b
  | [], _ => rfl
  | c :: r, b => by simp [hex, hex_append r b]
theorem hex_length : ∀ a : List UInt8, (hex a).length = 2 * a.length
  | [] => rfl
  | c :: r => by simp [hex, hex_length r]; omega

theorem take_snoc (s : ByteArray) (k : Nat) (h : k < s.size) : s.data.toList.take (k + 1) = s.data.toList.take k ++ [s[k]] := by
  rw [List.take_succ_eq_append_getElem (by simpa using h)]; rfl

theorem and15 (x : Int) (h0 : 0 ≤ x) (h1 : x < 256) : bits .and .u8 x 15 = x % 16 := by
  have h := bits_mask .u8 8 (by decide) wraps_u8 4 (by decide) x h0 (by simpa using h1)
  simpa using h

theorem ret_str {a b : ByteArray} (h : a = b) : Ending.returned (.string a) = .returned (.string b) := by rw [h]
theorem ret_int {k : IntKind} {a b : Int} (h : a = b) : Ending.returned (.int k a) = .returned (.int k b) := by rw [h]
theorem ret_bool {a b : Bool} (h : a = b) : Ending.returned (.bool a) = .returned (.bool b) := by rw [h]

theorem strOfNums_nil : strOfNums [] = ByteArray.empty := rfl
theorem strOfNums_append (a b : List Int) : strOfNums a ++ strOfNums b = strOfNums (a ++ b) := by
  apply ByteArray.ext
  simp [strOfNums]

end Go.Proofs.YtnlbhmjgeedgpaaDoor.Mt
