/-
  A normal form is its own: what is UTF-8 stays so when it is prepared.
-/
import Derived.Test.YtfogcgegllhmmaaGreatDoorSyMath
import Derived.Test.YtfogcgegllhmmaaGreatDoorPrepEq
import Derived.Test.YtfogcgegllhmmaaGreatDoorDnBl
namespace Go.Proofs.YtfogcgegllhmmaaGreatDoor.Mt
open Go.Lib

/-- A character of more than one byte. -/
def Ck (p : List UInt8) : Prop := p ≠ [] ∧ (∀ c ∈ p, 128 ≤ c.toNat) ∧ ∀ t, validD (p ++ t) = validD t
theorem check_some {n b1 b2 b3 sz lo hi k : Nat} (h : checkN n b1 b2 b3 sz lo hi = some k) (hlo : 2 ≤ sz → 128 ≤ lo) : k = sz ∧ 2 ≤ k ∧ k ≤ 4 ∧ k ≤ n ∧ 128 ≤ b1 ∧ (3 ≤ k → 128 ≤ b2) ∧ (4 ≤ k → 128 ≤ b3) ∧ ∀ m d2 d3, k ≤ m → (3 ≤ k → d2 = b2) → (4 ≤ k → d3 = b3) → checkN m b1 d2 d3 sz lo hi = some k := by
  have hlo' : sz = 2 ∨ sz = 3 ∨ sz = 4 → 128 ≤ lo := fun h => hlo (by omega)
  unfold checkN at h
  split at h
  · rename_i e
    split at h
    · cases h
    · rename_i g
      obtain rfl : 2 = k := Option.some.inj h
      refine ⟨e.symm, by omega, by omega, by omega, by omega, by omega, by omega, fun m d2 d3 hm _ _ => ?_⟩
      unfold checkN
      rw [if_pos e, if_neg (by omega)]
  · rename_i e0
    split at h
    · rename_i e
      split at h
      · cases h
      · rename_i g
        obtain rfl : 3 = k := Option.some.inj h
        refine ⟨e.symm, by omega, by omega, by omega, by omega, by omega, by omega, fun m d2 d3 hm h2 _ => ?_⟩
        unfold checkN
        have := h2 (by omega)
        subst this
        rw [if_neg e0, if_pos e, if_neg (by omega)]
    · rename_i e1
      split at h
      · rename_i e
        split at h
        · cases h
        · rename_i g
          obtain rfl : 4 = k := Option.some.inj h
          refine ⟨e.symm, by omega, by omega, by omega, by omega, by omega, by omega, fun m d2 d3 hm h2 h3 => ?_⟩
          unfold checkN
          have := h2 (by omega)
          subst this
          have := h3 (by omega)
          subst this
          rw [if_neg e0, if_neg e1, if_pos e, if_neg (by omega)]
      · cases h
theorem accLo_ge (b : Nat) (hb : b < 256) (h : 2 ≤ firstT b % 8) : 128 ≤ accLo (firstT b / 16) := by
  have k : ∀ x : Fin 256, 2 ≤ firstT x.val % 8 → 128 ≤ accLo (firstT x.val / 16) := by decide +kernel
  exact k ⟨b, hb⟩ h
theorem getD_app {p t : List UInt8} {i : Nat} (h : i < p.length) : (p ++ t).getD i 0 = p.getD i 0 := by
  simp [List.getD, List.getElem?_append_left h]
theorem ck_of {l : List UInt8} (hne : l ≠ []) (h0 : 128 ≤ (l.getD 0 0).toNat) (hv : validD l = true) : ∃ p t, l = p ++ t ∧ Ck p ∧ validD t = true := by
  rw [validD_lead l hne h0] at hv
  split at hv
  · cases hv
  · rename_i k hk
    obtain ⟨_, h2, h4, hn, hb1, hb2, hb3, hall⟩ := check_some hk (accLo_ge _ (UInt8.toNat_lt _))
    have hp : (l.take k).length = k := by rw [List.length_take]; omega
    have hg : ∀ i, i < k → (l.take k).getD i 0 = l.getD i 0 := fun i hi => by
      have e : l = l.take k ++ l.drop k := (List.take_append_drop k l).symm
      conv => rhs; rw [e]
      exact (getD_app (by omega)).symm
    refine ⟨l.take k, l.drop k, (List.take_append_drop k l).symm, ⟨?_, ?_, ?_⟩, hv⟩
    · intro e; rw [e] at hp; simp at hp; omega
    · intro c hc
      obtain ⟨i, hi, rfl⟩ := List.mem_iff_getElem.1 hc
      rw [hp] at hi
      have e : (l.take k)[i] = l.getD i 0 := by
        rw [← hg i hi]; simp [List.getD, List.getElem?_eq_getElem (show i < (l.take k).length by omega)]
      rw [e]
      match i, hi with
      | 0, _ => exact h0
      | 1, _ => exact hb1
      | 2, h => exact hb2 (by omega)
      | 3, h => exact hb3 (by omega)
      | n + 4, h => omega
    · intro t
      have e : ∀ i, i < k → (l.take k ++ t).getD i 0 = l.getD i 0 := fun i hi => by rw [getD_app (by omega)]; exact hg i hi
      have hne' : l.take k ++ t ≠ [] := fun e => by
        have := congrArg List.length e
        rw [List.length_append, hp] at this
        simp at this; omega
      rw [validD_lead _ hne' (by rw [e 0 (by omega)]; exact h0), e 0 (by omega), e 1 (by omega),
        hall _ _ _ (by rw [List.length_append, hp]; omega) (fun h => by rw [e 2 (by omega)]) (fun h => by rw [e 3 (by omega)])]
      show validD ((l.take k ++ t).drop k) = validD t
      rw [show (l.take k ++ t).drop k = t from List.drop_left' hp]
theorem valid_ind {P : List UInt8 → Prop} (h0 : P []) (h1 : ∀ c t, c.toNat < 128 → validD t = true → P t → P (c :: t)) (h2 : ∀ p t, Ck p → validD t = true → P t → P (p ++ t)) : ∀ (n : Nat) (l : List UInt8), l.length ≤ n → validD l = true → P l := by
  intro n
  induction n with
  | zero =>
    intro l hl _
    obtain rfl : l = [] := List.eq_nil_of_length_eq_zero (by omega)
    exact h0
  | succ n ih =>
    intro l hl hv
    match l, hl, hv with
    | [], _, _ => exact h0
    | c :: r, hl, hv =>
      by_cases hc : c.toNat < 128
      · rw [validD_cons c r hc] at hv
        exact h1 c r hc hv (ih r (by simp at hl; omega) hv)
      · obtain ⟨p, t, e, hp, ht⟩ := ck_of (l := c :: r) (by simp) (by show 128 ≤ c.toNat; omega) hv
        rw [e]
        have hpl : 0 < p.length := List.length_pos_iff.2 hp.1
        exact h2 p t hp ht (ih t (by have := congrArg List.length e; rw [List.length_append] at this; omega) ht)
theorem valid_append {a b : List UInt8} (ha : validD a = true) (hb : validD b = true) : validD (a ++ b) = true := by
  refine valid_ind (P := fun a => validD (a ++ b) = true) hb (fun c t hc _ ih => ?_) (fun p t hp _ ih => ?_) a.length a (Nat.le_refl _) ha
  · rw [List.cons_append, validD_cons c _ hc]; exact ih
  · rw [List.append_assoc, hp.2.2]; exact ih
theorem valid_one {c : UInt8} (h : c.toNat < 128) : validD [c] = true := by rw [validD_cons c [] h]; rfl
theorem step_high {acc : List UInt8} {c : UInt8} (h : 128 ≤ c.toNat) : step acc c = acc ++ [c] := by
  have hc : c ≠ 32 := fun e => by subst e; revert h; decide
  unfold step
  rw [if_neg (fun h => hc h.1)]
  have e : sm c = c := UInt8.toNat_inj.1 (by rw [sm_toNat]; unfold smN; rw [if_neg (by omega)])
  rw [e]
theorem run_high : ∀ (p acc : List UInt8), (∀ c ∈ p, 128 ≤ c.toNat) → p.foldl step acc = acc ++ p
  | [], acc, _ => by simp
  | c :: p, acc, h => by
    rw [List.foldl_cons, step_high (h c (by simp)), run_high p _ (fun d hd => h d (by simp [hd])), List.append_assoc]
    rfl
theorem sm_low {c : UInt8} (h : c.toNat < 128) : (sm c).toNat < 128 := by
  rw [sm_toNat]
  unfold smN
  split <;> omega
theorem run_valid (l : List UInt8) (hv : validD l = true) : ∀ acc, validD acc = true → validD (l.foldl step acc) = true := by
  refine valid_ind (P := fun l => ∀ acc, validD acc = true → validD (l.foldl step acc) = true) (fun acc h => h) (fun c t hc _ ih acc h => ?_) (fun p t hp _ ih acc h => ?_) l.length l (Nat.le_refl _) hv
  · rw [List.foldl_cons]
    refine ih _ ?_
    unfold step
    split
    · exact h
    · exact valid_append h (valid_one (sm_low hc))
  · rw [List.foldl_append]
    refine ih _ ?_
    rw [run_high p acc hp.2.1]
    have : validD p = true := by have := hp.2.2 []; rw [List.append_nil] at this; rw [this]; rfl
    exact valid_append h this
theorem valid_last {l : List UInt8} (hv : validD l = true) : ∀ a, l = a ++ [32] → validD a = true := by
  refine valid_ind (P := fun l => ∀ a, l = a ++ [32] → validD a = true) (fun a h => by simp at h) (fun c t hc _ ih a h => ?_) (fun p t hp _ ih a h => ?_) l.length l (Nat.le_refl _) hv
  · match a, h with
    | [], _ => rfl
    | d :: a, h =>
      rw [List.cons_append] at h
      injection h with h1 h2
      subst h1
      rw [validD_cons c a hc]
      exact ih a h2
  · rcases List.eq_nil_or_concat t with rfl | ⟨t', x, hx⟩
    · rw [List.append_nil] at h
      have := hp.2.1 32 (by rw [h]; simp)
      exact absurd this (by decide)
    · subst hx
      rw [List.concat_eq_append, ← List.append_assoc] at h
      obtain ⟨h1, h2⟩ := List.append_inj' h rfl
      rw [← h1, hp.2.2]
      exact ih t' (by rw [List.concat_eq_append, h2])
theorem prep_valid {l : List UInt8} (hv : validD l = true) : validD (prep l) = true := by
  have h := run_valid l hv [] rfl
  unfold prep
  split
  · rename_i hl
    have hne : run l ≠ [] := fun e => by rw [e] at hl; cases hl
    have e : run l = (run l).dropLast ++ [32] := by
      have := (List.dropLast_concat_getLast hne).symm
      rw [List.getLast?_eq_some_getLast hne] at hl
      injection hl with hl
      rw [hl] at this
      exact this
    exact valid_last (l := run l) h _ e
  · exact h
theorem run_ascii : ∀ (l acc : List UInt8), (∀ c ∈ l, c.toNat < 128) → (∀ c ∈ acc, c.toNat < 128) → ∀ c ∈ l.foldl step acc, c.toNat < 128
  | [], _, _, h => h
  | d :: l, acc, hl, h => by
    rw [List.foldl_cons]
    refine run_ascii l _ (fun c hc => hl c (by simp [hc])) ?_
    unfold step
    split
    · exact h
    · intro c hc
      rcases List.mem_append.1 hc with hc | hc
      · exact h c hc
      · simp at hc
        subst hc
        exact sm_low (hl d (by simp))
theorem prep_ascii {l : List UInt8} (h : asciiB l = true) : asciiB (prep l) = true := by
  unfold asciiB at *
  simp only [List.all_eq_true, decide_eq_true_eq] at *
  have h1 := run_ascii l [] h (fun c hc => by cases hc)
  intro c hc
  unfold prep at hc
  split at hc
  · exact h1 c ((List.dropLast_sublist _).mem hc)
  · exact h1 c hc
/-- A normal form is its own normal form (of a text, unless it is empty). -/
theorem norm_twice {syn : Int} {l n : List UInt8} (h : normS syn l = some n) (hn : ¬ (n = [] ∧ syn = 1)) : normS syn n = some n := by
  unfold normS at h
  split at h
  · cases h
  rename_i hl
  split at h
  · rename_i h6
    subst h6
    split at h
    · rename_i k hk
      obtain rfl := Option.some.inj h
      obtain ⟨d, hd, hkd⟩ : ∃ d, dnL l = .ok d ∧ keyD d = .ok k := by
        unfold keyL at hk
        split at hk
        · cases hk
        · rename_i d hd; exact ⟨d, hd, hk⟩
      have h1 := key_key hkd
      have h2 := (key_reads hkd).1
      have h3 : ¬ 4096 < k.length := fun hc => by
        unfold dnL at h2
        rw [if_pos hc] at h2
        cases h2
      unfold normS
      rw [if_neg h3, if_pos rfl, h1]
    · cases h
  · rename_i h6
    split at h
    · cases h
    · rename_i hv
      have hv' : validS syn l = true := by simpa using hv
      split at h
      · rename_i h13
        obtain rfl := Option.some.inj h
        have hlen := prep_length l
        have hv2 : validS syn (prep l) = true := by
          rcases h13 with rfl | rfl
          · unfold validS at hv' ⊢
            rw [if_pos (by decide)] at hv' ⊢
            simp only [Bool.and_eq_true, decide_eq_true_eq] at hv' ⊢
            exact ⟨fun e => hn ⟨e, rfl⟩, prep_valid hv'.2⟩
          · unfold validS at hv' ⊢
            rw [if_neg (by decide), if_pos rfl] at hv' ⊢
            exact prep_ascii hv'
        unfold normS
        rw [if_neg (by omega), if_neg h6, if_neg (by rw [hv2]; decide), if_pos h13, prep_prep]
      · rename_i h13
        obtain rfl := Option.some.inj h
        unfold normS
        rw [if_neg hl, if_neg h6, if_neg hv, if_neg h13]
end Go.Proofs.YtfogcgegllhmmaaGreatDoor.Mt
