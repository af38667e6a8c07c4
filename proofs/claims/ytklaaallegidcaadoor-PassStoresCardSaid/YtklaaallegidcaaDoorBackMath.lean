/-
  Plain facts: what is put is got, and digits are read back. Nothing of the program stands here.
-/
import Derived.Test.YtklaaallegidcaaDoorUnhexMath
namespace Go.Proofs.YtklaaallegidcaaDoor.Mt

theorem be_get (n : Nat) : ∀ K j, j < K → (be n K)[j]? = some ((n / 256 ^ (K - 1 - j) % 256 : Nat) : Int)
  | K + 1, 0, _ => by simp [be]
  | K + 1, j + 1, h => by
    have ih := be_get n K j (by omega)
    simp only [be, List.getElem?_cons_succ, ih]
    rw [show K + 1 - 1 - (j + 1) = K - 1 - j by omega]

theorem gn_be (A B : List UInt8) (n K : Nat) : ∀ j, j ≤ K → gn (A ++ (strOfNums (be n K)).data.toList ++ B) A.length j = n / 256 ^ (K - j) % 256 ^ j
  | 0, _ => by simp [gn, Nat.mod_one]
  | j + 1, h => by
    have ih := gn_be A B n K j (by omega)
    have hb := be_get n K j (by omega)
    have hl : (strOfNums (be n K)).data.toList.length = K := by rw [strOfNums_data, List.length_map, be_length]
    have hg : (A ++ (strOfNums (be n K)).data.toList ++ B).getD (A.length + j) 0 = UInt8.ofNat (n / 256 ^ (K - 1 - j) % 256) := by
      simp only [List.getD]
      rw [List.getElem?_append_left (by rw [List.length_append, hl]; omega), List.getElem?_append_right (by omega), Nat.add_sub_cancel_left, strOfNums_data, List.getElem?_map, hb]
      show UInt8.ofNat (Int.toNat ((n / 256 ^ (K - 1 - j) % 256 : Nat) : Int)) = _
      rw [Int.toNat_natCast]
    simp only [gn, ih, hg]
    have e1 : K - j = (K - 1 - j) + 1 := by omega
    have e2 : K - (j + 1) = K - 1 - j := by omega
    rw [e1, e2, Nat.pow_succ, ← Nat.div_div_eq_div_mul, Nat.pow_succ, Nat.mul_comm (256 ^ j) 256, Nat.mod_mul]
    have : (UInt8.ofNat (n / 256 ^ (K - 1 - j) % 256)).toNat = n / 256 ^ (K - 1 - j) % 256 := by simp [UInt8.toNat_ofNat']
    rw [this]
    omega

theorem gn_put (A B : ByteArray) (n K : Nat) (h : n < 256 ^ K) : gn (A ++ strOfNums (be n K) ++ B).data.toList A.size K = n := by
  have := gn_be A.data.toList B.data.toList n K K (Nat.le_refl _)
  rw [Nat.sub_self, Nat.pow_zero, Nat.div_one, Nat.mod_eq_of_lt h] at this
  have e : (A ++ strOfNums (be n K) ++ B).data.toList = A.data.toList ++ (strOfNums (be n K)).data.toList ++ B.data.toList := by simp
  rw [e]
  exact this

theorem hex_get : ∀ (l : List UInt8) (k : Nat) (h : k < l.length), (hex l)[2 * k]? = some (dg (l[k].toNat / 16)) ∧ (hex l)[2 * k + 1]? = some (dg (l[k].toNat % 16))
  | c :: r, 0, _ => by simp [hex]
  | c :: r, k + 1, h => by
    have ih := hex_get r k (by simpa using h)
    rw [show 2 * (k + 1) = 2 * k + 1 + 1 by omega]
    simp only [hex, List.getElem?_cons_succ, List.getElem_cons_succ]
    exact ih

theorem hv_self (x : Nat) (h : x < 16) : hv (UInt8.ofNat (dg x).toNat).toNat = some x := by
  unfold dg
  split
  · have e : (UInt8.ofNat (((48 + x : Nat) : Int)).toNat).toNat = 48 + x := by
      rw [Int.toNat_natCast]; simp [UInt8.toNat_ofNat']; omega
    rw [e, hv, if_pos (by omega)]; congr 1; omega
  · have e : (UInt8.ofNat (((87 + x : Nat) : Int)).toNat).toNat = 87 + x := by
      rw [Int.toNat_natCast]; simp [UInt8.toNat_ofNat']; omega
    rw [e, hv, if_neg (by omega), if_pos (by omega)]; congr 1; omega

theorem hexs_length (l : List UInt8) : (strOfNums (hex l)).data.toList.length = 2 * l.length := by
  rw [strOfNums_data, List.length_map, hex_length]

theorem pv_hex (l : List UInt8) (k : Nat) (h : k < l.length) : pv (strOfNums (hex l)).data.toList k = some l[k].toNat := by
  obtain ⟨h1, h2⟩ := hex_get l k h
  have hlt := l[k].toNat_lt
  have g1 : (strOfNums (hex l)).data.toList.getD (2 * k) 0 = UInt8.ofNat (dg (l[k].toNat / 16)).toNat := by
    simp only [List.getD]; rw [strOfNums_data, List.getElem?_map, h1]; rfl
  have g2 : (strOfNums (hex l)).data.toList.getD (2 * k + 1) 0 = UInt8.ofNat (dg (l[k].toNat % 16)).toNat := by
    simp only [List.getD]; rw [strOfNums_data, List.getElem?_map, h2]; rfl
  rw [pv_some (x := l[k].toNat / 16) (y := l[k].toNat % 16) (by rw [g1]; exact hv_self _ (by omega)) (by rw [g2]; exact hv_self _ (by omega))]
  congr 1; omega

theorem uh_hex (l : List UInt8) : ∀ k, k ≤ l.length → uh (strOfNums (hex l)).data.toList k = some (l.take k)
  | 0, _ => by simp [uh]
  | k + 1, h => by
    rw [uh_some (uh_hex l k (by omega)) (pv_hex l k (by omega)), List.take_succ_eq_append_getElem (by omega)]
    congr 3
    exact u8_ext (by simp)

theorem unhex_hex (l : List UInt8) : unhex (strOfNums (hex l)).data.toList = (l, true) := by
  have hl := hexs_length l
  refine unhex_good (by omega) ?_
  rw [show (strOfNums (hex l)).data.toList.length / 2 = l.length by omega, uh_hex l _ (Nat.le_refl _), List.take_of_length_le (Nat.le_refl _)]

theorem pow_le56 (K : Nat) (h : K < 8) : (1 : Int) ≤ 2 ^ (8 * K) ∧ (2 : Int) ^ (8 * K) ≤ 72057594037927936 := by
  have : K = 0 ∨ K = 1 ∨ K = 2 ∨ K = 3 ∨ K = 4 ∨ K = 5 ∨ K = 6 ∨ K = 7 := by omega
  rcases this with rfl | rfl | rfl | rfl | rfl | rfl | rfl | rfl <;> simp
theorem wrap_mask (K : Nat) (h : K < 8) : IntKind.u64.wrap (IntKind.u64.wrap (2 ^ (8 * K)) - 1) = 2 ^ (8 * K) - 1 := by
  have hp := pow_le56 K h
  generalize (2 : Int) ^ (8 * K) = p at hp
  simp [IntKind.wrap, IntKind.bits, IntKind.signed]; omega
theorem mod_pow (m K : Nat) : (m : Int) % 2 ^ (8 * K) = ((m % 256 ^ K : Nat) : Int) := by
  have h : (2 : Nat) ^ (8 * K) = 256 ^ K := by rw [Nat.pow_mul]
  have h2 : (2 : Int) ^ (8 * K) = ((256 ^ K : Nat) : Int) := by rw [← h]; simp
  rw [h2]; omega

theorem mask (n : Int) (k : Nat) (hk : 8 * k ≤ 64) (h0 : 0 ≤ n) (h1 : n < 18446744073709551616) : bits .and .u64 n (2 ^ (8 * k) - 1) = n % 2 ^ (8 * k) := by
  refine bits_mask .u64 64 (by decide) (fun m ha hb => ?_) (8 * k) hk n h0 ?_
  · simp [IntKind.wrap, IntKind.bits, IntKind.signed]; omega
  · simpa using h1

end Go.Proofs.YtklaaallegidcaaDoor.Mt
