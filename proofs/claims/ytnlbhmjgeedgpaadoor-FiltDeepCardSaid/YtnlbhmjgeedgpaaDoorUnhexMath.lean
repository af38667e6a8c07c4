/-
  Plain facts on digits read back. Nothing of the program stands here.
-/
import Derived.Test.YtnlbhmjgeedgpaaDoorText
set_option linter.unusedVariables false
set_option linter.unusedSimpArgs false
namespace Go.Proofs.YtnlbhmjgeedgpaaDoor.Mt

/-- A digit's value. -/
def hv (c : Nat) : Option Nat :=
  if 48 ≤ c ∧ c ≤ 57 then some (c - 48) else if 97 ≤ c ∧ c ≤ 102 then some (c - 87) else if 65 ≤ c ∧ c ≤ 70 then some (c - 55) else none

theorem hv_lt {c v : Nat} (h : hv c = some v) : v < 16 := by
  unfold hv at h
  split at h
  · cases h; omega
  · split at h
    · cases h; omega
    · split at h
      · cases h; omega
      · cases h

theorem hv_dg (c : UInt8) (x : Nat) (hx : x < 16) : dg x = ((sm c).toNat : Int) ↔ hv c.toNat = some x := by
  have hs := sm_toNat c
  have hlt := c.toNat_lt
  generalize (sm c).toNat = m at hs
  generalize c.toNat = n at hs hlt
  unfold smN at hs
  unfold dg hv
  by_cases h1 : 48 ≤ n ∧ n ≤ 57
  · rw [if_pos h1]
    rw [if_neg (by omega)] at hs
    split <;> simp only [Option.some.injEq] <;> omega
  · rw [if_neg h1]
    by_cases h2 : 97 ≤ n ∧ n ≤ 102
    · rw [if_pos h2]
      rw [if_neg (by omega)] at hs
      split <;> simp only [Option.some.injEq] <;> omega
    · rw [if_neg h2]
      by_cases h3 : 65 ≤ n ∧ n ≤ 70
      · rw [if_pos h3]
        rw [if_pos (by omega)] at hs
        split <;> simp only [Option.some.injEq] <;> omega
      · rw [if_neg h3]
        have : ∀ b : Prop, (b ↔ (none : Option Nat) = some x) ↔ ¬ b := fun b => by simp
        rw [this]
        by_cases h4 : 65 ≤ n ∧ n ≤ 90
        · rw [if_pos h4] at hs
          split <;> omega
        · rw [if_neg h4] at hs
          split <;> omega

/-- The value of two digits. -/
def pv (l : List UInt8) (k : Nat) : Option Nat :=
  match hv (l.getD (2 * k) 0).toNat, hv (l.getD (2 * k + 1) 0).toNat with
  | some x, some y => some (16 * x + y)
  | _, _ => none

theorem pv_some {l : List UInt8} {k x y : Nat} (hx : hv (l.getD (2 * k) 0).toNat = some x) (hy : hv (l.getD (2 * k + 1) 0).toNat = some y) : pv l k = some (16 * x + y) := by
  unfold pv; rw [hx, hy]
theorem pv_none1 {l : List UInt8} {k : Nat} (hx : hv (l.getD (2 * k) 0).toNat = none) : pv l k = none := by
  unfold pv; rw [hx]
theorem pv_none2 {l : List UInt8} {k : Nat} (hy : hv (l.getD (2 * k + 1) 0).toNat = none) : pv l k = none := by
  unfold pv; rw [hy]; split <;> first | rfl | contradiction

/-- What is read of the first k pairs. -/
def uh (l : List UInt8) : Nat → Option (List UInt8)
  | 0 => some []
  | k + 1 => match uh l k, pv l k with
    | some o, some x => some (o ++ [UInt8.ofNat x])
    | _, _ => none

theorem uh_some {l : List UInt8} {k x : Nat} {o : List UInt8} (h : uh l k = some o) (hx : pv l k = some x) : uh l (k + 1) = some (o ++ [UInt8.ofNat x]) := by
  simp [uh, h, hx]
theorem uh_none {l : List UInt8} {k : Nat} (hx : pv l k = none) : uh l (k + 1) = none := by
  unfold uh; rw [hx]; split <;> first | rfl | contradiction
theorem uh_none_of {l : List UInt8} {k : Nat} (h : uh l k = none) : uh l (k + 1) = none := by
  unfold uh; rw [h]
theorem uh_none_le {l : List UInt8} {k : Nat} (h : uh l k = none) : ∀ n, uh l (k + n) = none
  | 0 => h
  | n + 1 => uh_none_of (uh_none_le h n)
theorem uh_length {l : List UInt8} : ∀ {k : Nat} {o : List UInt8}, uh l k = some o → o.length = k
  | 0, o, h => by simp [uh] at h; subst h; rfl
  | k + 1, o, h => by
    unfold uh at h
    split at h
    · rename_i o' x h1 h2
      cases h
      simp [uh_length h1]
    · cases h

/-- The bytes whose digits a text is, and whether it is such digits. -/
def unhex (l : List UInt8) : List UInt8 × Bool :=
  if l.length % 2 = 0 then match uh l (l.length / 2) with
    | some o => (o, true)
    | none => ([], false)
  else ([], false)

theorem unhex_odd {l : List UInt8} (h : l.length % 2 ≠ 0) : unhex l = ([], false) := by simp [unhex, h]
theorem unhex_bad {l : List UInt8} {k : Nat} (hk : k < l.length / 2) (h : pv l k = none) : unhex l = ([], false) := by
  unfold unhex
  split
  · have := uh_none_le (uh_none h) (l.length / 2 - (k + 1))
    rw [show k + 1 + (l.length / 2 - (k + 1)) = l.length / 2 by omega] at this
    rw [this]
  · rfl
theorem unhex_good {l : List UInt8} {o : List UInt8} (h : l.length % 2 = 0) (ho : uh l (l.length / 2) = some o) : unhex l = (o, true) := by
  simp [unhex, h, ho]

theorem pv_iff {l : List UInt8} {k n : Nat} {c d : UInt8} (hc : l.getD (2 * k) 0 = c) (hd : l.getD (2 * k + 1) 0 = d) (hn : n < 256) :
    pv l k = some n ↔ dg (n / 16) = ((sm c).toNat : Int) ∧ dg (n % 16) = ((sm d).toNat : Int) := by
  rw [hv_dg c (n / 16) (by omega), hv_dg d (n % 16) (by omega)]
  constructor
  · intro h
    unfold pv at h
    rw [hc, hd] at h
    split at h
    · rename_i x y hx hy
      have h1 := hv_lt hx
      have h2 := hv_lt hy
      cases h
      rw [hx, hy]
      exact ⟨by congr 1; omega, by congr 1; omega⟩
    · cases h
  · rintro ⟨h1, h2⟩
    rw [pv_some (by rw [hc]; exact h1) (by rw [hd]; exact h2)]
    congr 1; omega
theorem pv_lt {l : List UInt8} {k n : Nat} (h : pv l k = some n) : n < 256 := by
  unfold pv at h
  split at h
  · rename_i x y hx hy
    have h1 := hv_lt hx
    have h2 := hv_lt hy
    cases h; omega
  · cases h
theorem pv_all {l : List UInt8} {k : Nat} (h : ∀ n, n < 256 → pv l k ≠ some n) : pv l k = none := by
  cases hp : pv l k with
  | none => rfl
  | some n => exact absurd hp (h n (pv_lt hp))

theorem str_map_get (s : ByteArray) (j : Nat) (h : j < s.size) (h2 : j < (str (s.data.toList.map sm)).size) : (str (s.data.toList.map sm))[j]'h2 = sm (s.data.toList.getD j 0) := by
  have hl : j < s.data.toList.length := h
  have e : (str (s.data.toList.map sm)).data.toList[j]? = some ((str (s.data.toList.map sm))[j]'h2) := by
    rw [List.getElem?_eq_getElem (show j < (str (s.data.toList.map sm)).data.toList.length from h2)]; rfl
  rw [str_data, List.getElem?_map, List.getElem?_eq_getElem hl] at e
  simp only [Option.map_some, Option.some.injEq] at e
  rw [← e]
  simp only [List.getD, List.getElem?_eq_getElem hl, Option.getD_some]

theorem or_half (x y : Int) (h0 : 0 ≤ x) (h1 : x < 16) (h2 : 0 ≤ y) (h3 : y < 16) : bits .or .u8 (x * 16) y = x * 16 + y := by
  refine bits_join .u8 8 (by decide) wraps_u8 4 (x * 16) y (by omega) (by omega) ?_ h2 (by simpa using h3) ?_
  · simp; omega
  · simp; omega
theorem ofNat_pair (x y : Nat) (hx : x < 16) (hy : y < 16) : ((UInt8.ofNat (16 * x + y)).toNat : Int) = (x : Int) * 16 + y := by
  simp [UInt8.toNat_ofNat']; omega

end Go.Proofs.YtnlbhmjgeedgpaaDoor.Mt

/-
  Plain facts: what is put is got, and digits are read back. Nothing of the program stands here.
-/
namespace Go.Proofs.YtnlbhmjgeedgpaaDoor.Mt

theorem be_get (n : Nat) : ∀ K j, j < K → (be n K)[j]? = some ((n / 256 ^ (K - 1 - j) % 256 : Nat) : Int)
  | K + 1, 0, _ => by simp [be]
  | K + 1, j + 1, h => by
    have ih := be_get n K j (by omega)
    simp only [be, List.getElem?_cons_succ, ih]
    rw [show K + 1 - 1 - (j + 1) = K - 1 - j by omega]

theorem gn_be (A B : List UInt8) (n K : Nat) : ∀ j, j ≤ K → gn (A ++ (strOfNums (be n K)).data.toList ++ B) A.length j = n / 256 ^ (K - j) % 256 ^ j
  | 0, _ => by simp [gn, Nat.mod_one]
  | j + 1, h => by
    have ih := gn_be A B n K j (by omega)
    have hb := be_get n K j (by omega)
    have hl : (strOfNums (be n K)).data.toList.length = K := by rw [strOfNums_data, List.length_map, be_length]
    have hg : (A ++ (strOfNums (be n K)).data.toList ++ B).getD (A.length + j) 0 = UInt8.ofNat (n / 256 ^ (K - 1 - j) % 256) := by
      simp only [List.getD]
      rw [List.getElem?_append_left (by rw [List.length_append, hl]; omega), List.getElem?_append_right (by omega), Nat.add_sub_cancel_left, strOfNums_data, List.getElem?_map, hb]
      show UInt8.ofNat (Int.toNat ((n / 256 ^ (K - 1 - j) % 256 : Nat) : Int)) = _
      rw [Int.toNat_natCast]
    simp only [gn, ih, hg]
    have e1 : K - j = (K - 1 - j) + 1 := by omega
    have e2 : K - (j + 1) = K - 1 - j := by omega
    rw [e1, e2, Nat.pow_succ, ← Nat.div_div_eq_div_mul, Nat.pow_succ, Nat.mul_comm (256 ^ j) 256, Nat.mod_mul]
    have : (UInt8.ofNat (n / 256 ^ (K - 1 - j) % 256)).toNat = n / 256 ^ (K - 1 - j) % 256 := by simp [UInt8.toNat_ofNat']
    rw [this]
    omega

theorem gn_put (A B : ByteArray) (n K : Nat) (h : n < 256 ^ K) : gn (A ++ strOfNums (be n K) ++ B).data.toList A.size K = n := by
  have := gn_be A.data.toList B.data.toList n K K (Nat.le_refl _)
  rw [Nat.sub_self, Nat.pow_zero, Nat.div_one, Nat.mod_eq_of_lt h] at this
  have e : (A ++ strOfNums (be n K) ++ B).data.toList = A.data.toList ++ (strOfNums (be n K)).data.toList ++ B.data.toList := by simp
  rw [e]
  exact this

theorem hex_get : ∀ (l : List UInt8) (k : Nat) (h : k < l.length), (hex l)[2 * k]? = some (dg (l[k].toNat / 16)) ∧ (hex l)[2 * k + 1]? = some (dg (l[k].toNat % 16))
  | c :: r, 0, _ => by simp [hex]
  | c :: r, k + 1, h => by
    have ih := hex_get r k (by simpa using h)
    rw [show 2 * (k + 1) = 2 * k + 1 + 1 by omega]
    simp only [hex, List.getElem?_cons_succ, List.getElem_cons_succ]
    exact ih

theorem hv_self (x : Nat) (h : x < 16) : hv (UInt8.ofNat (dg x).toNat).toNat = some x := by
  unfold dg
  split
  · have e : (UInt8.ofNat (((48 + x : Nat) : Int)).toNat).toNat = 48 + x := by
      rw [Int.toNat_natCast]; simp [UInt8.toNat_ofNat']; omega
    rw [e, hv, if_pos (by omega)]; congr 1; omega
  · have e : (UInt8.ofNat (((87 + x : Nat) : Int)).toNat).toNat = 87 + x := by
      rw [Int.toNat_natCast]; simp [UInt8.toNat_ofNat']; omega
    rw [e, hv, if_neg (by omega), if_pos (by omega)]; congr 1; omega

theorem hexs_length (l : List UInt8) : (strOfNums (hex l)).data.toList.length = 2 * l.length := by
  rw [strOfNums_data, List.length_map, hex_length]

theorem pv_hex (l : List UInt8) (k : Nat) (h : k < l.length) : pv (strOfNums (hex l)).data.toList k = some l[k].toNat := by
  obtain ⟨h1, h2⟩ := hex_get l k h
  have hlt := l[k].toNat_lt
  have g1 : (strOfNums (hex l)).data.toList.getD (2 * k) 0 = UInt8.ofNat (dg (l[k].toNat / 16)).toNat := by
    simp only [List.getD]; rw [strOfNums_data, List.getElem?_map, h1]; rfl
  have g2 : (strOfNums (hex l)).data.toList.getD (2 * k + 1) 0 = UInt8.ofNat (dg (l[k].toNat % 16)).toNat := by
    simp only [List.getD]; rw [strOfNums_data, List.getElem?_map, h2]; rfl
  rw [pv_some (x := l[k].toNat / 16) (y := l[k].toNat % 16) (by rw [g1]; exact hv_self _ (by omega)) (by rw [g2]; exact hv_self _ (by omega))]
  congr 1; omega

theorem uh_hex (l : List UInt8) : ∀ k, k ≤ l.length → uh (strOfNums (hex l)).data.toList k = some (l.take k)
  | 0, _ => by simp [uh]
  | k + 1, h => by
    rw [uh_some (uh_hex l k (by omega)) (pv_hex l k (by omega)), List.take_succ_eq_append_getElem (by omega)]
    congr 3
    exact u8_ext (by simp)

theorem unhex_hex (l : List UInt8) : unhex (strOfNums (hex l)).data.toList = (l, true) := by
  have hl := hexs_length l
  refine unhex_good (by omega) ?_
  rw [show (strOfNums (hex l)).data.toList.length / 2 = l.length by omega, uh_hex l _ (Nat.le_refl _), List.take_of_length_le (Nat.le_refl _)]

theorem pow_le56 (K : Nat) (h : K < 8) : (1 : Int) ≤ 2 ^ (8 * K) ∧ (2 : Int) ^ (8 * K) ≤ 72057594037927936 := by
  have : K = 0 ∨ K = 1 ∨ K = 2 ∨ K = 3 ∨ K = 4 ∨ K = 5 ∨ K = 6 ∨ K = 7 := by omega
  rcases this with rfl | rfl | rfl | rfl | rfl | rfl | rfl | rfl <;> simp
theorem wrap_mask (K : Nat) (h : K < 8) : IntKind.u64.wrap (IntKind.u64.wrap (2 ^ (8 * K)) - 1) = 2 ^ (8 * K) - 1 := by
  have hp := pow_le56 K h
  generalize (2 : Int) ^ (8 * K) = p at hp
  simp [IntKind.wrap, IntKind.bits, IntKind.signed]; omega
theorem mod_pow (m K : Nat) : (m : Int) % 2 ^ (8 * K) = ((m % 256 ^ K : Nat) : Int) := by
  have h : (2 : Nat) ^ (8 * K) = 256 ^ K := by rw [Nat.pow_mul]
  have h2 : (2 : Int) ^ (8 * K) = ((256 ^ K : Nat) : Int) := by rw [← h]; simp
  rw [h2]; omega

theorem mask (n : Int) (k : Nat) (hk : 8 * k ≤ 64) (h0 : 0 ≤ n) (h1 : n < 18446744073709551616) : bits .and .u64 n (2 ^ (8 * k) - 1) = n % 2 ^ (8 * k) := by
  refine bits_mask .u64 64 (by decide) (fun m ha hb => ?_) (8 * k) hk n h0 ?_
  · simp [IntKind.wrap, IntKind.bits, IntKind.signed]; omega
  · simpa using h1

end Go.Proofs.YtnlbhmjgeedgpaaDoor.Mt
