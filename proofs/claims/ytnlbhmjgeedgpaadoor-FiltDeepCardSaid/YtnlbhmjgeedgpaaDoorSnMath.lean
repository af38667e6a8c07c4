/-
  Numbers as texts: which texts are numbers, and in what order they stand.
-/
import Derived.Lib.ParseIntBTie
import Derived.Lib.ItoaNum
import Derived.Lib.AtoiAllCases
import Derived.Lib.Bytealg
set_option linter.unusedVariables false
set_option linter.unusedSimpArgs false
namespace Go.Proofs.YtnlbhmjgeedgpaaDoor.Mt
open Go.Lib

def isD (c : UInt8) : Prop := 48 ≤ c.toNat ∧ c.toNat ≤ 57
instance (c : UInt8) : Decidable (isD c) := by unfold isD; infer_instance
/-- The number that digits are, behind another one. -/
def ten (a : Nat) (l : List UInt8) : Nat := l.foldl (fun a c => a * 10 + (c.toNat - 48)) a
theorem ten_cons (a : Nat) (c : UInt8) (l : List UInt8) : ten a (c :: l) = ten (a * 10 + (c.toNat - 48)) l := by unfold ten; rw [List.foldl_cons]
theorem ten_snoc (a : Nat) (l : List UInt8) (c : UInt8) : ten a (l ++ [c]) = ten a l * 10 + (c.toNat - 48) := by unfold ten; rw [List.foldl_append]; rfl
theorem ten_arith (a d p q : Nat) : (a * 10 + d) * p + q = a * (p * 10) + ((0 * 10 + d) * p + q) := by
  rw [Nat.zero_mul, Nat.zero_add, Nat.add_mul, Nat.mul_assoc, Nat.mul_comm 10 p, Nat.add_assoc]
theorem ten_pow (l : List UInt8) : ∀ (a : Nat), ten a l = a * 10 ^ l.length + ten 0 l := by
  induction l with
  | nil => intro a; simp [ten]
  | cons c l ih =>
    intro a
    rw [ten_cons, ten_cons, ih (a * 10 + (c.toNat - 48)), ih (0 * 10 + (c.toNat - 48)), List.length_cons, Nat.pow_succ]
    exact ten_arith _ _ _ _
theorem ten_ge (a : Nat) (l : List UInt8) : a ≤ ten a l := by
  rw [ten_pow]
  have : 1 ≤ 10 ^ l.length := Nat.one_le_pow _ _ (by decide)
  have := Nat.mul_le_mul_left a this
  omega
theorem ten_lt : ∀ (l : List UInt8), (∀ c ∈ l, isD c) → ten 0 l < 10 ^ l.length
  | [], _ => by simp [ten]
  | c :: l, h => by
    have h1 := h c (List.mem_cons_self ..)
    have h2 := ten_lt l fun x hx => h x (List.mem_cons_of_mem _ hx)
    unfold isD at h1
    rw [ten_cons, ten_pow, List.length_cons, Nat.pow_succ]
    have : (0 * 10 + (c.toNat - 48)) * 10 ^ l.length ≤ 9 * 10 ^ l.length := Nat.mul_le_mul_right _ (by omega)
    omega
theorem parse_yes : ∀ (l : List UInt8) (a : Nat), (∀ c ∈ l, isD c) → ten a l < 18446744073709551616 → parseUint10 a l = .ok (ten a l)
  | [], a, _, _ => rfl
  | c :: l, a, h, hl => by
    have h1 := h c (List.mem_cons_self ..)
    unfold isD at h1
    rw [ten_cons] at hl
    have hg := ten_ge (a * 10 + (c.toNat - 48)) l
    unfold parseUint10
    rw [if_pos h1, if_neg (by omega), if_neg (by omega), ten_cons]
    exact parse_yes l _ (fun x hx => h x (List.mem_cons_of_mem _ hx)) hl
theorem parse_no : ∀ (l : List UInt8) (a u : Nat), parseUint10 a l = .ok u → (∀ c ∈ l, isD c) ∧ u = ten a l
  | [], a, u, h => by
    unfold parseUint10 at h
    injection h with h
    exact ⟨(fun c hc => nomatch hc), h.symm⟩
  | c :: l, a, u, h => by
    unfold parseUint10 at h
    split at h
    · rename_i hd
      split at h
      · cases h
      · split at h
        · cases h
        · obtain ⟨h1, h2⟩ := parse_no l _ _ h
          refine ⟨fun x hx => ?_, h2⟩
          rcases List.mem_cons.1 hx with rfl | hx
          · exact hd
          · exact h1 x hx
    · cases h
theorem digit_back (u : Nat) (h : u < 10) : (UInt8.ofNat (48 + u)).toNat = 48 + u := by rw [UInt8.toNat_ofNat']; omega
theorem dec_isD : ∀ (u : Nat), ∀ c ∈ decDigits u, isD c := by
  intro u
  induction u using Nat.strongRecOn with
  | _ u ih =>
    intro c hc
    by_cases h : u < 10
    · rw [decDigits, dif_pos h, List.mem_singleton] at hc
      subst hc
      unfold isD
      rw [digit_back u h]; omega
    · rw [decDigits, dif_neg h, List.mem_append, List.mem_singleton] at hc
      rcases hc with hc | rfl
      · exact ih (u / 10) (by omega) c hc
      · unfold isD
        rw [digit_back _ (by omega)]; omega
theorem dec_ten (u : Nat) : ten 0 (decDigits u) = u := by
  induction u using Nat.strongRecOn with
  | _ u ih =>
    by_cases h : u < 10
    · rw [decDigits, dif_pos h]
      show 0 * 10 + ((UInt8.ofNat (48 + u)).toNat - 48) = u
      rw [digit_back u h]; omega
    · rw [decDigits, dif_neg h, ten_snoc, ih (u / 10) (by omega), digit_back _ (by omega)]; omega
theorem dec_ne (u : Nat) : decDigits u ≠ [] := by
  intro h
  have := decDigits_length u
  rw [h] at this
  have := nDigits_pos u
  simp at *
  omega
/-- Digits that don't begin with a nought are the digits of what they are. -/
theorem dec_back : ∀ (n : Nat) (l : List UInt8), l.length = n → l ≠ [] → (∀ c ∈ l, isD c) → l.head? ≠ some 48 → decDigits (ten 0 l) = l ∧ 0 < ten 0 l := by
  intro n
  induction n with
  | zero => intro l hl hne; exact absurd (List.eq_nil_of_length_eq_zero hl) hne
  | succ n ih =>
    intro l hl hne hd hh
    obtain ⟨s, c, rfl⟩ : ∃ s c, l = s ++ [c] := ⟨l.dropLast, l.getLast hne, (List.dropLast_concat_getLast hne).symm⟩
    have hc := hd c (by simp)
    unfold isD at hc
    have e : UInt8.ofNat (48 + (c.toNat - 48)) = c := UInt8.toNat_inj.1 (by rw [digit_back _ (by omega)]; omega)
    rw [ten_snoc]
    by_cases hs : s = []
    · subst hs
      have hc0 : c.toNat ≠ 48 := fun h => hh (by simp; exact UInt8.toNat_inj.1 h)
      have e0 : ten 0 [] = 0 := rfl
      rw [e0, Nat.zero_mul, Nat.zero_add, decDigits, dif_pos (by omega), e]
      exact ⟨rfl, by omega⟩
    · have hls : s.length = n := by simp at hl; exact hl
      obtain ⟨h1, h2⟩ := ih s hls hs (fun x hx => hd x (by simp [hx])) (fun h => hh (by rw [List.head?_append, h]; rfl))
      rw [decDigits, dif_neg (by omega), show (ten 0 s * 10 + (c.toNat - 48)) / 10 = ten 0 s by omega, show (ten 0 s * 10 + (c.toNat - 48)) % 10 = c.toNat - 48 by omega, h1, e]
      exact ⟨rfl, by omega⟩
theorem dec_head (u : Nat) (hu : 0 < u) : (decDigits u).head? ≠ some 48 := by
  induction u using Nat.strongRecOn with
  | _ u ih =>
    by_cases h : u < 10
    · rw [decDigits, dif_pos h]
      intro he
      simp only [List.head?_cons, Option.some.injEq] at he
      have := congrArg UInt8.toNat he
      rw [digit_back u h] at this
      have : (48 : UInt8).toNat = 48 := rfl
      omega
    · rw [decDigits, dif_neg h, List.head?_append]
      have h1 := ih (u / 10) (by omega) (by omega)
      cases hd : (decDigits (u / 10)).head? with
      | none => exact absurd (List.head?_eq_none_iff.1 hd) (dec_ne _)
      | some x => rw [hd] at h1; simpa using h1
theorem dec_zero : decDigits 0 = [48] := by rw [decDigits]; rfl
/-- Of as many digits the lesser ones are the lesser number. -/
theorem ten_order : ∀ (a b : List UInt8), a.length = b.length → (∀ c ∈ a, isD c) → (∀ c ∈ b, isD c) → (a < b ↔ ten 0 a < ten 0 b)
  | [], [], _, _, _ => by simp [ten]
  | x :: a, y :: b, hl, ha, hb => by
    have hx := ha x (List.mem_cons_self ..)
    have hy := hb y (List.mem_cons_self ..)
    have ha' := fun c hc => ha c (List.mem_cons_of_mem x hc)
    have hb' := fun c hc => hb c (List.mem_cons_of_mem y hc)
    have hl' : a.length = b.length := by simpa using hl
    have ih := ten_order a b hl' ha' hb'
    have la := ten_lt a ha'
    have lb := ten_lt b hb'
    unfold isD at hx hy
    rw [List.cons_lt_cons_iff, ten_cons, ten_cons, ten_pow a, ten_pow b, ih, UInt8.lt_iff_toNat_lt, ← UInt8.toNat_inj, hl']
    rw [hl'] at la
    obtain ⟨p, hp⟩ : ∃ p, 10 ^ b.length = p := ⟨_, rfl⟩
    rw [hp] at la lb ⊢
    obtain ⟨u, hu⟩ : ∃ u, x.toNat = u + 48 := ⟨x.toNat - 48, by omega⟩
    obtain ⟨v, hv⟩ : ∃ v, y.toNat = v + 48 := ⟨y.toNat - 48, by omega⟩
    rw [hu, hv]
    simp only [Nat.zero_mul, Nat.zero_add, Nat.add_sub_cancel]
    constructor
    · rintro (h | ⟨h, h2⟩)
      · have : (u + 1) * p ≤ v * p := Nat.mul_le_mul_right _ (by omega)
        rw [Nat.add_mul] at this
        omega
      · have : u = v := by omega
        subst this
        omega
    · intro h
      rcases Nat.lt_trichotomy u v with h1 | h1 | h1
      · exact .inl (by omega)
      · subst h1; exact .inr ⟨rfl, by omega⟩
      · exfalso
        have : (v + 1) * p ≤ u * p := Nat.mul_le_mul_right _ (by omega)
        rw [Nat.add_mul] at this
        omega

/-! ### numbers -/
def inI (n : Int) : Prop := -9223372036854775808 ≤ n ∧ n ≤ 9223372036854775807
/-- The number that a text is. -/
def numV (l : List UInt8) : Option Int := match parseIntB 64 l with
  | .ok n => if itoa n = l then some n else none
  | _ => none
theorem itoa_parse {n : Int} (h : inI n) : parseIntB 64 (itoa n) = .ok n := by
  unfold inI at h
  rw [parseIntB_64]
  unfold itoa
  by_cases hn : n < 0
  · rw [if_pos hn, atoiAll_minus]
    unfold parseMag
    rw [if_neg (dec_ne _), parse_yes _ _ (dec_isD _) (by rw [dec_ten]; omega), dec_ten]
    rw [show signed (.ok n.natAbs) = if 9223372036854775808 < n.natAbs then .range else .ok (-(n.natAbs : Int)) from rfl, if_neg (by omega)]
    congr 1; omega
  · rw [if_neg hn]
    have h1 : ∀ c r, decDigits n.toNat = c :: r → atoiAll (c :: r) = signless (parseMag (c :: r)) := fun c r e => by
      have hd := dec_isD n.toNat c (by rw [e]; exact List.mem_cons_self ..)
      unfold isD at hd
      exact atoiAll_plain c r (by omega) (by omega)
    match hd : decDigits n.toNat with
    | [] => exact absurd hd (dec_ne _)
    | c :: r =>
      rw [h1 c r hd, ← hd]
      unfold parseMag
      rw [if_neg (dec_ne _), parse_yes _ _ (dec_isD _) (by rw [dec_ten]; omega), dec_ten]
      rw [show signless (.ok n.toNat) = if 9223372036854775808 ≤ n.toNat then .range else .ok (n.toNat : Int) from rfl, if_neg (by omega)]
      congr 1; omega
theorem numV_iff (l : List UInt8) (n : Int) : numV l = some n ↔ inI n ∧ itoa n = l := by
  constructor
  · intro h
    unfold numV at h
    split at h
    · rename_i m hm
      split at h
      · rename_i he
        injection h with h
        subst h
        have hb := parseIntB_bounds hm
        exact ⟨by unfold inI; omega, he⟩
      · cases h
    · cases h
  · rintro ⟨h, rfl⟩
    unfold numV
    rw [itoa_parse h]
    simp
theorem numV_itoa {n : Int} (h : inI n) : numV (itoa n) = some n := (numV_iff _ _).2 ⟨h, rfl⟩
theorem itoa_inj {m n : Int} (hm : inI m) (hn : inI n) (h : itoa m = itoa n) : m = n := by
  have h1 := numV_itoa hm
  rw [h, numV_itoa hn] at h1
  injection h1 with h1
  exact h1.symm

/-! ### the document's way -/
def most7 : List UInt8 := [57, 50, 50, 51, 51, 55, 50, 48, 51, 54, 56, 53, 52, 55, 55, 53, 56, 48, 55]
def most8 : List UInt8 := [57, 50, 50, 51, 51, 55, 50, 48, 51, 54, 56, 53, 52, 55, 55, 53, 56, 48, 56]
def digs (l : List UInt8) : Bool := !l.isEmpty && l.all fun c => decide (isD c)
/-- Digits, not a nought ahead, not too many. -/
def rdig (l most : List UInt8) : Bool := digs l && decide (l.head? ≠ some 48) && (decide (l.length < 19) || (decide (l.length = 19) && decide (¬ most < l)))
def rnum (l : List UInt8) : Bool := if l = [48] then true else if l.head? = some 45 then rdig l.tail most8 else rdig l most7
theorem digs_iff (l : List UInt8) : digs l = true ↔ l ≠ [] ∧ ∀ c ∈ l, isD c := by
  unfold digs
  simp
theorem rdig_iff (l most : List UInt8) (M : Nat) (hm : most.length = 19) (hd : ∀ c ∈ most, isD c) (ht : ten 0 most = M) (hM : M < 10000000000000000000) (hM2 : 1000000000000000000 ≤ M) : rdig l most = true ↔ ∃ u, 0 < u ∧ u ≤ M ∧ decDigits u = l := by
  unfold rdig
  rw [Bool.and_eq_true, Bool.and_eq_true, digs_iff, Bool.or_eq_true, Bool.and_eq_true, decide_eq_true_eq, decide_eq_true_eq, decide_eq_true_eq, decide_eq_true_eq]
  constructor
  · rintro ⟨⟨⟨h1, h2⟩, h3⟩, h4⟩
    obtain ⟨h5, h6⟩ := dec_back _ l rfl h1 h2 h3
    refine ⟨ten 0 l, h6, ?_, h5⟩
    rcases h4 with h4 | ⟨h4, h7⟩
    · have h8 := ten_lt l h2
      have : 10 ^ l.length ≤ 10 ^ 18 := Nat.pow_le_pow_right (by decide) (by omega)
      have e : (10 : Nat) ^ 18 = 1000000000000000000 := by decide
      omega
    · rw [ten_order most l (by omega) hd h2, ht] at h7
      omega
  · rintro ⟨u, h1, h2, rfl⟩
    refine ⟨⟨⟨dec_ne u, dec_isD u⟩, dec_head u h1⟩, ?_⟩
    have hl : (decDigits u).length ≤ 19 := by
      rw [decDigits_length]
      rcases Nat.lt_or_ge 19 (nDigits u) with h | h
      · exfalso
        have hb := dec_back _ (decDigits u) rfl (dec_ne u) (dec_isD u) (dec_head u h1)
        match hd2 : decDigits u with
        | [] => exact dec_ne u hd2
        | c :: r =>
          have h8 : ten 0 (c :: r) = u := by rw [← hd2]; exact dec_ten u
          have h9 := dec_isD u c (by rw [hd2]; exact List.mem_cons_self ..)
          have h10 := dec_head u h1
          rw [hd2] at h10
          have hc : c.toNat ≠ 48 := fun e => h10 (by simp; exact UInt8.toNat_inj.1 e)
          unfold isD at h9
          have hlen : r.length + 1 = nDigits u := by rw [← decDigits_length, hd2]; rfl
          rw [ten_cons, ten_pow] at h8
          have h11 : 10 ^ 19 ≤ 10 ^ r.length := Nat.pow_le_pow_right (by decide) (by omega)
          have e : (10 : Nat) ^ 19 = 10000000000000000000 := by decide
          have h12 : 1 * 10 ^ r.length ≤ (0 * 10 + (c.toNat - 48)) * 10 ^ r.length := Nat.mul_le_mul_right _ (by omega)
          omega
      · exact h
    rcases Nat.lt_or_ge (decDigits u).length 19 with h | h
    · exact .inl h
    · refine .inr ⟨by omega, ?_⟩
      rw [ten_order most _ (by omega) hd (dec_isD u), ht, dec_ten]
      omega
theorem rnum_eq (l : List UInt8) : rnum l = (numV l).isSome := by
  rw [Bool.eq_iff_iff, Option.isSome_iff_exists]
  unfold rnum
  constructor
  · intro h
    split at h
    · rename_i e
      refine ⟨0, (numV_iff l 0).2 ⟨⟨by decide, by decide⟩, ?_⟩⟩
      rw [e]; unfold itoa; rw [if_neg (by decide)]; exact dec_zero
    · split at h
      · rename_i hh
        obtain ⟨u, h1, h2, h3⟩ := (rdig_iff _ most8 9223372036854775808 rfl (by decide) (by decide) (by decide) (by decide)).1 h
        refine ⟨-(u : Int), (numV_iff l _).2 ⟨⟨by omega, by omega⟩, ?_⟩⟩
        unfold itoa
        rw [if_pos (by omega), show (-(u : Int)).natAbs = u by omega, h3]
        cases l with
        | nil => cases hh
        | cons c r => simp at hh; rw [hh]; rfl
      · obtain ⟨u, h1, h2, h3⟩ := (rdig_iff _ most7 9223372036854775807 rfl (by decide) (by decide) (by decide) (by decide)).1 h
        refine ⟨(u : Int), (numV_iff l _).2 ⟨⟨by omega, by omega⟩, ?_⟩⟩
        unfold itoa
        rw [if_neg (by omega), Int.toNat_natCast, h3]
  · rintro ⟨n, hn⟩
    obtain ⟨h1, rfl⟩ := (numV_iff l n).1 hn
    unfold inI at h1
    by_cases h0 : n = 0
    · subst h0
      rw [if_pos (by unfold itoa; rw [if_neg (by decide)]; exact dec_zero)]
    · by_cases hneg : n < 0
      · have e : itoa n = 45 :: decDigits n.natAbs := by unfold itoa; rw [if_pos hneg]
        rw [e, if_neg (by simp [dec_ne]), if_pos (show (45 :: decDigits n.natAbs).head? = some 45 from rfl)]
        exact (rdig_iff _ most8 9223372036854775808 rfl (by decide) (by decide) (by decide) (by decide)).2 ⟨n.natAbs, by omega, by omega, rfl⟩
      · have e : itoa n = decDigits n.toNat := by unfold itoa; rw [if_neg hneg]
        have hne : decDigits n.toNat ≠ [48] := fun h => by
          have := dec_ten n.toNat
          rw [h] at this
          have e0 : ten 0 [48] = 0 := rfl
          omega
        have hh : (decDigits n.toNat).head? ≠ some 45 := fun h => by
          match hd : decDigits n.toNat with
          | [] => exact dec_ne _ hd
          | c :: r =>
            rw [hd] at h
            simp at h
            have := dec_isD n.toNat c (by rw [hd]; exact List.mem_cons_self ..)
            rw [h] at this
            revert this; decide
        rw [e, if_neg hne, if_neg hh]
        exact (rdig_iff _ most7 9223372036854775807 rfl (by decide) (by decide) (by decide) (by decide)).2 ⟨n.toNat, by omega, by omega, rfl⟩

/-! ### the order -/
def aheadN (a b : List UInt8) : Bool := decide (a.length < b.length) || (decide (a.length = b.length) && decide (a < b))
def ahead (a b : List UInt8) : Bool :=
  if a.head? = some 45 ∧ b.head? = some 45 then aheadN b.tail a.tail
  else if a.head? = some 45 ∨ b.head? = some 45 then decide (a.head? = some 45)
  else aheadN a b
theorem nDigits_lt {u v : Nat} (h : nDigits u < nDigits v) : u < v := by
  rcases Nat.lt_or_ge u v with h1 | h1
  · exact h1
  · exfalso
    have hm : ∀ (u v : Nat), v ≤ u → nDigits v ≤ nDigits u := by
      intro u
      induction u using Nat.strongRecOn with
      | _ u ih =>
        intro v hv
        by_cases hu : u < 10
        · rw [nDigits_small hu, nDigits_small (by omega)]; exact Nat.le_refl _
        · rw [nDigits_big hu]
          by_cases hv2 : v < 10
          · rw [nDigits_small hv2]; have := nDigits_pos (u / 10); omega
          · rw [nDigits_big hv2]
            have := ih (u / 10) (by omega) (v / 10) (by omega)
            omega
    have := hm u v h1
    omega
theorem aheadN_iff (u v : Nat) : aheadN (decDigits u) (decDigits v) = decide (u < v) := by
  unfold aheadN
  rw [Bool.eq_iff_iff, Bool.or_eq_true, Bool.and_eq_true, decide_eq_true_eq, decide_eq_true_eq, decide_eq_true_eq, decide_eq_true_eq]
  by_cases he : (decDigits u).length = (decDigits v).length
  · rw [ten_order _ _ he (dec_isD u) (dec_isD v), dec_ten, dec_ten]
    omega
  · rw [decDigits_length, decDigits_length] at he ⊢
    rcases Nat.lt_or_gt_of_ne he with h | h
    · have := nDigits_lt h; omega
    · have := nDigits_lt h; omega
theorem dec_sign (u : Nat) : (decDigits u).head? ≠ some 45 := fun h => by
  match hd : decDigits u with
  | [] => exact dec_ne _ hd
  | c :: r =>
    rw [hd] at h
    simp at h
    have := dec_isD u c (by rw [hd]; exact List.mem_cons_self ..)
    rw [h] at this
    revert this; decide
theorem ahead_itoa (m n : Int) : ahead (itoa m) (itoa n) = decide (m < n) := by
  unfold ahead itoa
  by_cases hm : m < 0
  · by_cases hn : n < 0
    · rw [if_pos hm, if_pos hn, if_pos ⟨rfl, rfl⟩]
      show aheadN (decDigits n.natAbs) (decDigits m.natAbs) = _
      rw [aheadN_iff, decide_eq_decide]; omega
    · rw [if_pos hm, if_neg hn, if_neg (fun h => dec_sign _ h.2), if_pos (.inl rfl), decide_eq_decide]
      exact ⟨fun _ => by omega, fun _ => rfl⟩
  · by_cases hn : n < 0
    · rw [if_neg hm, if_pos hn, if_neg (fun h => dec_sign _ h.1), if_pos (.inr rfl), decide_eq_decide]
      exact ⟨fun h => absurd h (dec_sign _), fun h => by omega⟩
    · rw [if_neg hm, if_neg hn, if_neg (fun h => dec_sign _ h.1), if_neg (fun h => h.elim (dec_sign _) (dec_sign _)), aheadN_iff, decide_eq_decide]; omega
end Go.Proofs.YtnlbhmjgeedgpaaDoor.Mt
