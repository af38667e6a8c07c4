/-
  A stream of bytes, cut into messages, in plain lists: however it is cut into parts, the same messages come. Nothing of the program stands here.
-/
import Derived.Test.YtfnggifadhploaaText
namespace Go.Proofs.Ytfnggifadhploaa.Mt

/-- How many bytes the message has that begins so, and the error. -/
def sizeL : List UInt8 → Nat × Nat
  | [] => (0, 0)
  | [c] => if c.toNat ≠ 48 then (0, 4) else (0, 0)
  | c :: d :: r =>
    if c.toNat ≠ 48 then (0, 4)
    else if d.toNat < 128 then (2 + d.toNat, 0)
    else if d.toNat = 128 ∨ 132 < d.toNat then (0, 8)
    else if r.length < d.toNat - 128 then (0, 0)
    else if 1048576 < gn (c :: d :: r) 2 (d.toNat - 128) then (0, 5)
    else (2 + (d.toNat - 128) + gn (c :: d :: r) 2 (d.toNat - 128), 0)
/-- The same of all that waits. -/
def cutL (l : List UInt8) : Nat × Nat :=
  if (sizeL (l.take 6)).2 ≠ 0 ∨ l.length < (sizeL (l.take 6)).1 then (0, (sizeL (l.take 6)).2) else sizeL (l.take 6)

theorem gn_append (a b : List UInt8) (i k : Nat) (h : i + k ≤ a.length) : gn (a ++ b) i k = gn a i k := by
  induction k with
  | zero => rfl
  | succ k ih =>
    simp only [gn]
    rw [ih (by omega)]
    congr 2
    simp [List.getD, List.getElem?_append_left (show i + k < a.length by omega)]
/-- A size that was told is told with more bytes behind. -/
theorem sizeL_append (a b : List UInt8) (h : sizeL a ≠ (0, 0)) : sizeL (a ++ b) = sizeL a := by
  match a with
  | [] => exact absurd rfl h
  | [c] =>
    simp only [sizeL] at h ⊢
    by_cases hc : c.toNat = 48
    · rw [if_neg (by simp [hc])] at h; exact absurd rfl h
    · match b with
      | [] => simp [sizeL, hc]
      | d :: r => simp [hc]
  | c :: d :: r =>
    simp only [List.cons_append, sizeL] at h ⊢
    by_cases hc : c.toNat = 48
    · have hn : ¬ (c.toNat ≠ 48) := by simp [hc]
      rw [if_neg hn, if_neg hn]
      rw [if_neg hn] at h
      split
      · rfl
      · rename_i h1
        rw [if_neg h1] at h
        split
        · rfl
        · rename_i h2
          rw [if_neg h2] at h
          by_cases h3 : r.length < d.toNat - 128
          · rw [if_pos h3] at h; exact absurd rfl h
          · rw [if_neg h3, if_neg (by simp; omega)]
            have hg : gn (c :: d :: (r ++ b)) 2 (d.toNat - 128) = gn (c :: d :: r) 2 (d.toNat - 128) := by
              have := gn_append (c :: d :: r) b 2 (d.toNat - 128) (by simp; omega)
              simpa using this
            rw [hg]
    · rw [if_pos (by simpa using hc), if_pos (by simpa using hc)]
theorem take6_append (a b : List UInt8) : ∃ x, (a ++ b).take 6 = a.take 6 ++ x := ⟨b.take (6 - a.length), by rw [List.take_append]⟩
theorem cutL_append (a b : List UInt8) (h : cutL a ≠ (0, 0)) : cutL (a ++ b) = cutL a := by
  obtain ⟨x, hx⟩ := take6_append a b
  have hs : sizeL (a.take 6) ≠ (0, 0) := by
    intro e
    apply h
    unfold cutL
    rw [e]; simp
  have he := sizeL_append (a.take 6) x hs
  unfold cutL at h ⊢
  rw [hx, he]
  by_cases h2 : (sizeL (a.take 6)).2 = 0
  · by_cases h3 : a.length < (sizeL (a.take 6)).1
    · rw [if_pos (.inr h3), h2] at h; exact absurd rfl h
    · rw [if_neg (by simp [h2]; omega), if_neg (by simp [h2]; omega)]
  · rw [if_pos (.inl h2), if_pos (.inl h2)]
theorem cutL_le (l : List UInt8) : (cutL l).1 ≤ l.length := by
  unfold cutL; split
  · simp
  · rename_i h
    omega
theorem cutL_bad (l : List UInt8) (h : (cutL l).2 ≠ 0) : (cutL l).1 = 0 := by
  unfold cutL at h ⊢; split
  · rfl
  · rename_i h2
    rw [if_neg h2] at h
    exact absurd (Or.inl h) h2
theorem cutL_nil : cutL [] = (0, 0) := rfl
theorem sizeL_lt (l : List UInt8) : (sizeL l).1 ≤ 1048582 := by
  match l with
  | [] => simp [sizeL]
  | [c] => simp only [sizeL]; split <;> simp
  | c :: d :: r =>
    have hd := d.toNat_lt
    simp only [sizeL]
    split
    · simp
    · split
      · simp; omega
      · split
        · simp
        · split
          · simp
          · split
            · simp
            · simp; omega

/-- All messages that wait, what is left, the error. -/
def drain : Nat → List UInt8 → List (List UInt8) × List UInt8 × Nat
  | 0, l => ([], l, 0)
  | k + 1, l => if (cutL l).2 ≠ 0 then ([], [], (cutL l).2) else if (cutL l).1 = 0 then ([], l, 0)
    else (l.take (cutL l).1 :: (drain k (l.drop (cutL l).1)).1, (drain k (l.drop (cutL l).1)).2)
theorem drain_fuel : ∀ (k : Nat) (l : List UInt8), l.length < k → drain k l = drain (l.length + 1) l
  | 0, l, h => by omega
  | k + 1, l, h => by
    simp only [drain]
    split
    · rfl
    · split
      · rfl
      · have hle := cutL_le l
        rw [drain_fuel k _ (by simp; omega)]
        by_cases e : l.length = 0
        · omega
        · rw [drain_fuel l.length (l.drop (cutL l).1) (by simp; omega)]
/-- The same, whatever the fuel. -/
def drn (l : List UInt8) : List (List UInt8) × List UInt8 × Nat := drain (l.length + 1) l
theorem drn_bad {l : List UInt8} (h : (cutL l).2 ≠ 0) : drn l = ([], [], (cutL l).2) := by simp [drn, drain, h]
theorem drn_none {l : List UInt8} (h : (cutL l).2 = 0) (h0 : (cutL l).1 = 0) : drn l = ([], l, 0) := by simp [drn, drain, h, h0]
theorem drn_more {l : List UInt8} (h : (cutL l).2 = 0) (h0 : (cutL l).1 ≠ 0) : drn l = (l.take (cutL l).1 :: (drn (l.drop (cutL l).1)).1, (drn (l.drop (cutL l).1)).2) := by
  have hle := cutL_le l
  have hf := drain_fuel l.length (l.drop (cutL l).1) (by simp; omega)
  show drain (l.length + 1) l = _
  unfold drain
  rw [if_neg (by simp [h]), if_neg h0, hf]
  rfl
/-- What comes of what waits, or of an error, with more bytes behind. -/
def drnE (e : Nat) (l : List UInt8) : List (List UInt8) × List UInt8 × Nat := if e ≠ 0 then ([], [], e) else drn l
theorem drn_append (k : Nat) : ∀ (a b : List UInt8), a.length ≤ k → drn (a ++ b) = ((drn a).1 ++ (drnE (drn a).2.2 ((drn a).2.1 ++ b)).1, (drnE (drn a).2.2 ((drn a).2.1 ++ b)).2) := by
  induction k with
  | zero =>
    intro a b h
    have ha : a = [] := List.eq_nil_of_length_eq_zero (by omega)
    subst ha
    simp [drn_none (l := []) rfl rfl, drnE]
  | succ k ih =>
    intro a b h
    by_cases hb : (cutL a).2 = 0
    · by_cases h0 : (cutL a).1 = 0
      · simp [drn_none hb h0, drnE]
      · have hne : cutL a ≠ (0, 0) := fun e => h0 (by rw [e])
        have hc := cutL_append a b hne
        have hle := cutL_le a
        have hm := drn_more (l := a ++ b) (by rw [hc]; exact hb) (by rw [hc]; exact h0)
        have e1 : (a ++ b).take (cutL a).1 = a.take (cutL a).1 := List.take_append_of_le_length hle
        have e2 : (a ++ b).drop (cutL a).1 = a.drop (cutL a).1 ++ b := List.drop_append_of_le_length hle
        rw [hm, hc, e1, e2, drn_more hb h0, ih (a.drop (cutL a).1) b (by simp; omega)]
        simp
    · have hne : cutL a ≠ (0, 0) := fun e => hb (by rw [e])
      have hc := cutL_append a b hne
      rw [drn_bad (l := a ++ b) (by rw [hc]; exact hb), drn_bad hb, hc]
      simp [drnE, hb]
theorem drn_length (k : Nat) : ∀ (a : List UInt8), a.length ≤ k → ((drn a).1.map List.length).sum + (drn a).2.1.length ≤ a.length ∧ (drn a).1.length ≤ a.length ∧ ((drn a).2.2 ≠ 0 → (drn a).2.1 = []) := by
  induction k with
  | zero =>
    intro a h
    have ha : a = [] := List.eq_nil_of_length_eq_zero (by omega)
    subst ha
    simp [drn_none (l := []) rfl rfl]
  | succ k ih =>
    intro a h
    by_cases hb : (cutL a).2 = 0
    · by_cases h0 : (cutL a).1 = 0
      · simp [drn_none hb h0]
      · have hle := cutL_le a
        obtain ⟨i1, i2, i3⟩ := ih (a.drop (cutL a).1) (by simp; omega)
        rw [drn_more hb h0]
        simp at i1 i2 ⊢
        refine ⟨by omega, by omega, fun h => i3 h⟩
    · simp [drn_bad hb]

end Go.Proofs.Ytfnggifadhploaa.Mt
