/-
  What is read can be put: in no more bytes than it was read of.
-/
import Derived.Test.YtmdhioifdnaajaaTvMath
set_option linter.unusedVariables false
set_option linter.unusedSimpArgs false
namespace Go.Proofs.Ytmdhioifdnaajaa.Mt
theorem gn_small (l : List UInt8) : ∀ (k a : Nat), gn l a k < 256 ^ k
  | 0, _ => by simp [gn]
  | k + 1, a => by
    have h := gn_small l k a
    have hb := (l.getD (a + k) 0).toNat_lt
    simp only [gn]
    rw [Nat.pow_succ]
    omega
theorem lenL_front {l : List UInt8} {n : Nat} {x : List UInt8} (h : lenL l = .ok (n, x)) : (if n < 128 then 1 else 1 + lenSize n) + x.length ≤ l.length := by
  match l with
  | [] => simp [lenL] at h
  | c :: r =>
    simp only [lenL] at h
    split at h
    · rename_i hc
      simp at h
      obtain ⟨rfl, rfl⟩ := h
      rw [if_pos hc]; simp; omega
    · split at h
      · cases h
      · split at h
        · cases h
        · split at h
          · cases h
          · rename_i h0 h1 h2 h3
            simp only [Except.ok.injEq, Prod.mk.injEq] at h
            obtain ⟨rfl, rfl⟩ := h
            have hs := gn_small (c :: r) (c.toNat - 128) 1
            obtain ⟨k, hk⟩ : ∃ k, c.toNat - 128 = k := ⟨_, rfl⟩
            have hk2 : 1 ≤ k ∧ k ≤ 4 := by omega
            rw [hk] at hs h2 h3 ⊢
            generalize gn (c :: r) 1 k = m at *
            have hl : lenSize m ≤ k := by
              unfold lenSize
              have : k = 1 ∨ k = 2 ∨ k = 3 ∨ k = 4 := by omega
              rcases this with rfl | rfl | rfl | rfl <;> (repeat' split) <;> simp at hs ⊢ <;> omega
            rw [List.length_drop, List.length_cons]
            split <;> omega
theorem splitL_front {l : List UInt8} {t : Nat} {d x : List UInt8} (h : splitL l = .ok (t, d, x)) : (frontL t d.length).length + d.length + x.length ≤ l.length := by
  match l with
  | [] => simp [splitL] at h
  | c :: r =>
    simp only [splitL] at h
    split at h
    · cases h
    · split at h
      · cases h
      · rename_i n y hn
        split at h
        · cases h
        · rename_i hy
          simp only [Except.ok.injEq, Prod.mk.injEq] at h
          obtain ⟨rfl, rfl, rfl⟩ := h
          have h1 := lenL_front hn
          have h2 : (y.take n).length = n := by rw [List.length_take]; omega
          rw [h2, List.length_drop]
          have h3 : (frontL c.toNat n).length = 1 + (if n < 128 then 1 else 1 + lenSize n) := by
            unfold frontL
            split
            · rfl
            · simp [beU_length]; omega
          rw [h3, List.length_cons]
          omega
theorem put_all {d : Nat} (hd : ∀ l n x, parseL d l = .ok (n, x) → ∃ s, putL d n = .ok s ∧ s.length + x.length ≤ l.length) : ∀ (k : Nat) (l : List UInt8) (ks : List Nd), allL (parseL d) k l = .ok ks → ∃ bs, putAll (putL d) ks = .ok bs ∧ bs.length ≤ l.length
  | 0, l, ks, h => by simp [allL] at h; subst h; exact ⟨[], rfl, Nat.zero_le _⟩
  | k + 1, [], ks, h => by simp [allL] at h; subst h; exact ⟨[], rfl, Nat.zero_le _⟩
  | k + 1, c :: r, ks, h => by
    simp only [allL] at h
    split at h
    · cases h
    · rename_i n x hp
      split at h
      · cases h
      · rename_i l2 hl2
        simp only [Except.ok.injEq] at h
        subst h
        obtain ⟨s, h1, h2⟩ := hd _ _ _ hp
        obtain ⟨bs, h3, h4⟩ := put_all hd k x l2 hl2
        refine ⟨s ++ bs, by simp only [putAll, h1, h3], ?_⟩
        rw [List.length_append]; omega
theorem put_parse : ∀ (d : Nat) (l : List UInt8) (n : Nd) (x : List UInt8), parseL d l = .ok (n, x) → ∃ s, putL d n = .ok s ∧ s.length + x.length ≤ l.length
  | 0, l, n, x, h => by simp [parseL] at h
  | d + 1, l, n, x, h => by
    simp only [parseL] at h
    split at h
    · cases h
    · rename_i t data rest hs
      have hok := splitL_ok hs
      have hfr := splitL_front hs
      have hbt : ¬ badTag (t : Int) := by unfold badTag; omega
      split at h
      · rename_i hc
        simp only [Except.ok.injEq, Prod.mk.injEq] at h
        obtain ⟨rfl, rfl⟩ := h
        have hnc : ¬ cons (t : Int) := by unfold cons; omega
        refine ⟨frontL t data.length ++ data, ?_, by rw [List.length_append]; omega⟩
        simp only [putL]
        rw [if_neg hbt, if_neg (by simp [hnc])]
        simp only [putAll]
        rw [if_neg (by simp; omega)]
        simp
      · rename_i hc
        split at h
        · cases h
        · rename_i ks hks
          simp only [Except.ok.injEq, Prod.mk.injEq] at h
          obtain ⟨rfl, rfl⟩ := h
          have hcons : cons (t : Int) := by unfold cons; omega
          obtain ⟨bs, h1, h2⟩ := put_all (put_parse d) _ _ _ hks
          have hmono : (frontL t bs.length).length ≤ (frontL t data.length).length := by
            unfold frontL lenSize
            (repeat' split) <;> simp [beU_length] <;> omega
          refine ⟨frontL t bs.length ++ bs, ?_, by rw [List.length_append]; omega⟩
          simp only [putL]
          rw [if_neg hbt, if_neg (by simp [hcons]), h1]
          simp only
          rw [if_neg (by simp; omega)]
          simp
end Go.Proofs.Ytmdhioifdnaajaa.Mt
