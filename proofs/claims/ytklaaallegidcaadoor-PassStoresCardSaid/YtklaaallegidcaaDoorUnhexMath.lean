/-
  Plain facts on digits read back. Nothing of the program stands here.
-/
import Derived.Test.YtklaaallegidcaaDoorText
namespace Go.Proofs.YtklaaallegidcaaDoor.Mt

/-- A digit's value. -/
def hv (c : Nat) : Option Nat :=
  if 48 ≤ c ∧ c ≤ 57 then some (c - 48) else if 97 ≤ c ∧ c ≤ 102 then some (c - 87) else if 65 ≤ c ∧ c ≤ 70 then some (c - 55) else none

theorem hv_lt {c v : Nat} (h : hv c = some v) : v < 16 := by
  unfold hv at h
  split at h
  · cases h; omega
  · split at h
    · cases h; omega
    · split at h
      · cases h; omega
      · cases h

theorem hv_dg (c : UInt8) (x : Nat) (hx : x < 16) : dg x = ((sm c).toNat : Int) ↔ hv c.toNat = some x := by
  have hs := sm_toNat c
  have hlt := c.toNat_lt
  generalize (sm c).toNat = m at hs
  generalize c.toNat = n at hs hlt
  unfold smN at hs
  unfold dg hv
  by_cases h1 : 48 ≤ n ∧ n ≤ 57
  · rw [if_pos h1]
    rw [if_neg (by omega)] at hs
    split <;> simp only [Option.some.injEq] <;> omega
  · rw [if_neg h1]
    by_cases h2 : 97 ≤ n ∧ n ≤ 102
    · rw [if_pos h2]
      rw [if_neg (by omega)] at hs
      split <;> simp only [Option.some.injEq] <;> omega
    · rw [if_neg h2]
      by_cases h3 : 65 ≤ n ∧ n ≤ 70
      · rw [if_pos h3]
        rw [if_pos (by omega)] at hs
        split <;> simp only [Option.some.injEq] <;> omega
      · rw [if_neg h3]
        have : ∀ b : Prop, (b ↔ (none : Option Nat) = some x) ↔ ¬ b := fun b => by simp
        rw [this]
        by_cases h4 : 65 ≤ n ∧ n ≤ 90
        · rw [if_pos h4] at hs
          split <;> omega
        · rw [if_neg h4] at hs
          split <;> omega

/-- The value of two digits. -/
def pv (l : List UInt8) (k : Nat) : Option Nat :=
  match hv (l.getD (2 * k) 0).toNat, hv (l.getD (2 * k + 1) 0).toNat with
  | some x, some y => some (16 * x + y)
  | _, _ => none

theorem pv_some {l : List UInt8} {k x y : Nat} (hx : hv (l.getD (2 * k) 0).toNat = some x) (hy : hv (l.getD (2 * k + 1) 0).toNat = some y) : pv l k = some (16 * x + y) := by
  unfold pv; rw [hx, hy]
theorem pv_none1 {l : List UInt8} {k : Nat} (hx : hv (l.getD (2 * k) 0).toNat = none) : pv l k = none := by
  unfold pv; rw [hx]
theorem pv_none2 {l : List UInt8} {k : Nat} (hy : hv (l.getD (2 * k + 1) 0).toNat = none) : pv l k = none := by
  unfold pv; rw [hy]; split <;> first | rfl | contradiction

/-- What is read of the first k pairs. -/
def uh (l : List UInt8) : Nat → Option (List UInt8)
  | 0 => some []
  | k + 1 => match uh l k, pv l k with
    | some o, some x => some (o ++ [UInt8.ofNat x])
    | _, _ => none

theorem uh_some {l : List UInt8} {k x : Nat} {o : List UInt8} (h : uh l k = some o) (hx : pv l k = some x) : uh l (k + 1) = some (o ++ [UInt8.ofNat x]) := by
  simp [uh, h, hx]
theorem uh_none {l : List UInt8} {k : Nat} (hx : pv l k = none) : uh l (k + 1) = none := by
  unfold uh; rw [hx]; split <;> first | rfl | contradiction
theorem uh_none_of {l : List UInt8} {k : Nat} (h : uh l k = none) : uh l (k + 1) = none := by
  unfold uh; rw [h]
theorem uh_none_le {l : List UInt8} {k : Nat} (h : uh l k = none) : ∀ n, uh l (k + n) = none
  | 0 => h
  | n + 1 => uh_none_of (uh_none_le h n)
theorem uh_length {l : List UInt8} : ∀ {k : Nat} {o : List UInt8}, uh l k = some o → o.length = k
  | 0, o, h => by simp [uh] at h; subst h; rfl
  | k + 1, o, h => by
    unfold uh at h
    split at h
    · rename_i o' x h1 h2
      cases h
      simp [uh_length h1]
    · cases h

/-- The bytes whose digits a text is, and whether it is such digits. -/
def unhex (l : List UInt8) : List UInt8 × Bool :=
  if l.length % 2 = 0 then match uh l (l.length / 2) with
    | some o => (o, true)
    | none => ([], false)
  else ([], false)

theorem unhex_odd {l : List UInt8} (h : l.length % 2 ≠ 0) : unhex l = ([], false) := by simp [unhex, h]
theorem unhex_bad {l : List UInt8} {k : Nat} (hk : k < l.length / 2) (h : pv l k = none) : unhex l = ([], false) := by
  unfold unhex
  split
  · have := uh_none_le (uh_none h) (l.length / 2 - (k + 1))
    rw [show k + 1 + (l.length / 2 - (k + 1)) = l.length / 2 by omega] at this
    rw [this]
  · rfl
theorem unhex_good {l : List UInt8} {o : List UInt8} (h : l.length % 2 = 0) (ho : uh l (l.length / 2) = some o) : unhex l = (o, true) := by
  simp [unhex, h, ho]

theorem pv_iff {l : List UInt8} {k n : Nat} {c d : UInt8} (hc : l.getD (2 * k) 0 = c) (hd : l.getD (2 * k + 1) 0 = d) (hn : n < 256) :
    pv l k = some n ↔ dg (n / 16) = ((sm c).toNat : Int) ∧ dg (n % 16) = ((sm d).toNat : Int) := by
  rw [hv_dg c (n / 16) (by omega), hv_dg d (n % 16) (by omega)]
  constructor
  · intro h
    unfold pv at h
    rw [hc, hd] at h
    split at h
    · rename_i x y hx hy
      have h1 := hv_lt hx
      have h2 := hv_lt hy
      cases h
      rw [hx, hy]
      exact ⟨by congr 1; omega, by congr 1; omega⟩
    · cases h
  · rintro ⟨h1, h2⟩
    rw [pv_some (by rw [hc]; exact h1) (by rw [hd]; exact h2)]
    congr 1; omega
theorem pv_lt {l : List UInt8} {k n : Nat} (h : pv l k = some n) : n < 256 := by
  unfold pv at h
  split at h
  · rename_i x y hx hy
    have h1 := hv_lt hx
    have h2 := hv_lt hy
    cases h; omega
  · cases h
theorem pv_all {l : List UInt8} {k : Nat} (h : ∀ n, n < 256 → pv l k ≠ some n) : pv l k = none := by
  cases hp : pv l k with
  | none => rfl
  | some n => exact absurd hp (h n (pv_lt hp))

theorem str_map_get (s : ByteArray) (j : Nat) (h : j < s.size) (h2 : j < (str (s.data.toList.map sm)).size) : (str (s.data.toList.map sm))[j]'h2 = sm (s.data.toList.getD j 0) := by
  have hl : j < s.data.toList.length := h
  have e : (str (s.data.toList.map sm)).data.toList[j]? = some ((str (s.data.toList.map sm))[j]'h2) := by
    rw [List.getElem?_eq_getElem (show j < (str (s.data.toList.map sm)).data.toList.length from h2)]; rfl
  rw [str_data, List.getElem?_map, List.getElem?_eq_getElem hl] at e
  simp only [Option.map_some, Option.some.injEq] at e
  rw [← e]
  simp only [List.getD, List.getElem?_eq_getElem hl, Option.getD_some]

theorem or_half (x y : Int) (h0 : 0 ≤ x) (h1 : x < 16) (h2 : 0 ≤ y) (h3 : y < 16) : bits .or .u8 (x * 16) y = x * 16 + y := by
  refine bits_join .u8 8 (by decide) wraps_u8 4 (x * 16) y (by omega) (by omega) ?_ h2 (by simpa using h3) ?_
  · simp; omega
  · simp; omega
theorem ofNat_pair (x y : Nat) (hx : x < 16) (hy : y < 16) : ((UInt8.ofNat (16 * x + y)).toNat : Int) = (x : Int) * 16 + y := by
  simp [UInt8.toNat_ofNat']; omega

end Go.Proofs.YtklaaallegidcaaDoor.Mt
