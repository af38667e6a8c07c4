/-
  Some texts of one proof, one behind the other.
-/
import Derived.Test.YtngdbhncafnliaaGreatPk0
import Derived.Test.YtngdbhncafnliaaGreatPk1
set_option linter.unusedVariables false
set_option linter.unusedSimpArgs false

/-
  A name's text is read as the name; a key is its own key. Plain lists alone: nothing of the program stands here.
-/
namespace Go.Proofs.YtngdbhncafnliaaGreat.Mt

theorem u8_cases (c : UInt8) (n : Nat) (hn : n < 256) : c = UInt8.ofNat n ↔ c.toNat = n := by
  constructor
  · rintro rfl; simp [UInt8.toNat_ofNat']; omega
  · intro h; exact u8_ext (by rw [h]; simp [UInt8.toNat_ofNat']; omega)

theorem guard_spec {c : UInt8} {f l : Bool} (h : guardN c.toNat f l = true) (h0 : c ≠ 0) : specN c.toNat = true := by
  have h0' : c.toNat ≠ 0 := fun e => h0 (u8_ext e)
  simp only [guardN, specN, Bool.or_eq_true, Bool.and_eq_true, decide_eq_true_eq] at h ⊢
  omega
theorem not_guard {c : UInt8} {f l : Bool} (h : guardN c.toNat f l = false) : c ≠ 92 ∧ c ≠ 43 ∧ c ≠ 44 ∧ c ≠ 0 := by
  simp only [guardN, Bool.or_eq_false_iff, decide_eq_false_iff_not] at h
  have h1 := h.1.1
  refine ⟨?_, ?_, ?_, ?_⟩ <;> (rintro rfl; exact h1 (by decide))
/-- What a written value begins with is no end. -/
theorem wr_ends (f : Bool) (c : UInt8) (r rest : List UInt8) : endsL (wrF f (c :: r) ++ rest) = false := by
  simp only [wrF]
  by_cases h0 : c = 0
  · rw [if_pos h0]; simp [endsL]
  · rw [if_neg h0]
    by_cases hg : guardN c.toNat f r.isEmpty = true
    · rw [if_pos hg]; simp [endsL]
    · rw [if_neg hg]
      have := not_guard (by simpa using hg)
      simp [endsL, this.2.1, this.2.2.1]
theorem wr_ends' (r rest : List UInt8) (h : endsL rest = true) : endsL (wrF false r ++ rest) = r.isEmpty := by
  cases r with
  | nil => simpa [wrF] using h
  | cons c r => rw [wr_ends]; rfl
theorem valF_step {k : Nat} {o l : List UInt8} {c : UInt8} {n : Nat} (he : endsL l = false) (hb : byteL l = some (c, n)) (hg : (decide (n = 1) && guardN c.toNat o.isEmpty (endsL (l.drop n))) = false) : valF (k + 1) o l = valF k (o ++ [c]) (l.drop n) := by
  simp [valF, he, hb, hg]
theorem val_wr (rest : List UInt8) (hr : endsL rest = true) : ∀ (v o : List UInt8) (k : Nat), v.length < k → valF k o (wrF o.isEmpty v ++ rest) = some (o ++ v, rest)
  | _, _, 0, h => by omega
  | [], o, k + 1, _ => by simp [wrF, valF, hr]
  | c :: r, o, k + 1, hk => by
    have ih := val_wr rest hr r (o ++ [c]) k (by simp at hk; omega)
    have he : (o ++ [c]).isEmpty = false := by simp
    rw [he] at ih
    have hne := wr_ends o.isEmpty c r rest
    by_cases h0 : c = 0
    · subst h0
      have hW : wrF o.isEmpty (0 :: r) = [92, 48, 48] ++ wrF false r := by simp [wrF]
      rw [hW] at hne ⊢
      have hb : byteL ([92, 48, 48] ++ wrF false r ++ rest) = some (0, 3) := by
        simp [byteL, specN, hv]
      have e : ([92, 48, 48] ++ wrF false r ++ rest).drop 3 = wrF false r ++ rest := by simp
      rw [valF_step hne hb (by simp), e, ih]; simp
    · by_cases hg : guardN c.toNat o.isEmpty r.isEmpty = true
      · have hW : wrF o.isEmpty (c :: r) = [92, c] ++ wrF false r := by simp only [wrF]; rw [if_neg h0, if_pos hg]
        rw [hW] at hne ⊢
        have hs := guard_spec hg h0
        have hb : byteL ([92, c] ++ wrF false r ++ rest) = some (c, 2) := by
          simp [byteL, hs]
        have e : ([92, c] ++ wrF false r ++ rest).drop 2 = wrF false r ++ rest := by simp
        rw [valF_step hne hb (by simp), e, ih]; simp
      · have hW : wrF o.isEmpty (c :: r) = [c] ++ wrF false r := by simp only [wrF]; rw [if_neg h0, if_neg hg]
        rw [hW] at hne ⊢
        have hg : guardN c.toNat o.isEmpty r.isEmpty = false := by simpa using hg
        have hn := not_guard hg
        have hb : byteL ([c] ++ wrF false r ++ rest) = some (c, 1) := by
          simp [byteL, hn.1]
        have e : ([c] ++ wrF false r ++ rest).drop 1 = wrF false r ++ rest := by simp
        rw [valF_step hne hb (by rw [e, wr_ends' r rest hr, hg]; rfl), e, ih]; simp
theorem wr_len (f : Bool) : ∀ v : List UInt8, v.length ≤ (wrF f v).length
  | [] => by simp
  | c :: r => by
    have := wr_len false r
    simp only [wrF, List.length_append, List.length_cons]
    split
    · simp; omega
    · split <;> simp <;> omega
theorem valL_wr (v rest : List UInt8) (hr : endsL rest = true) : valL (wrL v ++ rest) = some (v, rest) := by
  have := val_wr rest hr v [] ((wrL v ++ rest).length + 1) (by have := wr_len true v; unfold wrL; rw [List.length_append]; omega)
  simpa [valL, wrL] using this

theorem typ_no_eq {t : List UInt8} (h : typL t = true) : ∀ c ∈ t, c ≠ 61 := by
  match t with
  | [] => simp
  | x :: r =>
    simp only [typL, Bool.and_eq_true, List.all_eq_true] at h
    intro c hc
    rintro rfl
    rcases List.mem_cons.1 hc with rfl | hc
    · have := h.1.2; simp [letN] at this
    · have := h.2 _ hc; simp [tyN, letN, digN] at this
theorem cut_typ : ∀ (t : List UInt8) (x : List UInt8), (∀ c ∈ t, c ≠ 61) → cutE (t ++ 61 :: x) = some (t, x)
  | [], x, _ => by simp [cutE]
  | c :: r, x, h => by
    have h1 := h c (by simp)
    have := cut_typ r x (fun d hd => h d (List.mem_cons_of_mem _ hd))
    simp [cutE, h1, this]
/-- An RDN that can be printed: types that differ. -/
def VR (r : List Av) : Prop := r ≠ [] ∧ r.length ≤ 8 ∧ (∀ a ∈ r, typL a.1 = true) ∧ r.Pairwise (fun a b => foldL a.1 ≠ foldL b.1)
theorem inter_cons2 (sep a b : List UInt8) (r : List (List UInt8)) : sep.intercalate (a :: b :: r) = a ++ sep ++ sep.intercalate (b :: r) := by simp [List.intercalate, List.intersperse]
theorem has_no {acc : List Av} {a : Av} {t : List Av} (h : (acc ++ a :: t).Pairwise (fun a b => foldL a.1 ≠ foldL b.1)) : hasL acc a.1 = false := by
  unfold hasL
  rw [List.any_eq_false]
  intro x hx
  have := (List.pairwise_append.1 h).2.2 x hx a (by simp)
  simpa using this
theorem rdn_spelt (rest : List UInt8) (hr : endsL rest = true) (hp : rest.head? ≠ some 43) : ∀ (r : List Av) (acc : List Av) (k : Nat), r ≠ [] → r.length ≤ k → (∀ a ∈ r, typL a.1 = true) → (acc ++ r).Pairwise (fun a b => foldL a.1 ≠ foldL b.1) →
    rdnF k acc ([43].intercalate (r.map avL) ++ rest) = .ok (acc ++ r, rest)
  | [], _, _, h, _, _, _ => absurd rfl h
  | a :: r, acc, 0, _, hk, _, _ => by simp at hk
  | [a], acc, k + 1, _, hk, ht, hw => by
    have hta := ht a (by simp)
    have e : [43].intercalate (([a] : List Av).map avL) ++ rest = a.1 ++ 61 :: (wrL a.2 ++ rest) := by simp [List.intercalate, avL]
    rw [e]
    simp only [rdnF, cut_typ a.1 _ (typ_no_eq hta), hta, has_no hw, valL_wr a.2 rest hr, Bool.not_true, Bool.false_eq_true, if_false]
    split
    · rename_i h; simp at hp
    · rfl
  | a :: b :: r, acc, k + 1, _, hk, ht, hw => by
    have hta := ht a (by simp)
    have e : [43].intercalate ((a :: b :: r).map avL) ++ rest = a.1 ++ 61 :: (wrL a.2 ++ 43 :: ([43].intercalate ((b :: r).map avL) ++ rest)) := by
      simp only [List.map_cons, inter_cons2]; simp [avL]
    rw [e]
    simp only [rdnF, cut_typ a.1 _ (typ_no_eq hta), hta, has_no hw, valL_wr a.2 (43 :: _) (by simp [endsL]), Bool.not_true, Bool.false_eq_true, if_false]
    have ih := rdn_spelt rest hr hp (b :: r) (acc ++ [a]) k (by simp) (by simp at hk ⊢; omega) (fun x hx => ht x (List.mem_cons_of_mem _ hx)) (by simpa using hw)
    have e2 : acc ++ [(a.1, a.2)] = acc ++ [a] := rfl
    rw [e2, ih]; simp
theorem dn_spelt : ∀ (d : List (List Av)) (acc : List (List Av)) (k : Nat), d ≠ [] → d.length ≤ k → (∀ r ∈ d, VR r) → dnF k acc (textL speltL d) = .ok (acc ++ d)
  | [], _, _, h, _, _ => absurd rfl h
  | r :: d, acc, 0, _, hk, _ => by simp at hk
  | [r], acc, k + 1, _, hk, hv => by
    have hr := hv r (by simp)
    have e : textL speltL [r] = [43].intercalate (r.map avL) ++ [] := by simp [textL, List.intercalate, speltL]
    rw [e]
    simp only [dnF, rdn_spelt [] rfl (by simp) r [] 8 hr.1 hr.2.1 hr.2.2.1 (by simpa using hr.2.2.2)]
    rfl
  | r :: q :: d, acc, k + 1, _, hk, hv => by
    have hr := hv r (by simp)
    have e : textL speltL (r :: q :: d) = [43].intercalate (r.map avL) ++ 44 :: textL speltL (q :: d) := by
      simp only [textL, List.map_cons, inter_cons2]; simp [speltL]
    rw [e]
    simp only [dnF, rdn_spelt (44 :: textL speltL (q :: d)) (by simp [endsL]) (by simp) r [] 8 hr.1 hr.2.1 hr.2.2.1 (by simpa using hr.2.2.2)]
    have ih := dn_spelt (q :: d) (acc ++ [r]) k (by simp) (by simp at hk ⊢; omega) (fun x hx => hv x (List.mem_cons_of_mem _ hx))
    simp only [List.nil_append]
    rw [ih]; simp

theorem askA_pair (r : List Av) : ∀ (t pre : List Av), pre ++ t = r → askA r pre.length t = 0 → pre.Pairwise (fun a b => foldL a.1 ≠ foldL b.1) → r.Pairwise (fun a b => foldL a.1 ≠ foldL b.1)
  | [], pre, e, _, hp => by rw [← e]; simpa using hp
  | a :: t, pre, e, h, hp => by
    simp only [askA] at h
    split at h
    · cases h
    split at h
    · cases h
    split at h
    · cases h
    rename_i h1 h2 h3
    have htk : r.take pre.length = pre := by rw [← e]; simp
    rw [htk] at h3
    have h3 : hasL pre a.1 = false := by simpa using h3
    have hp2 : (pre ++ [a]).Pairwise (fun a b => foldL a.1 ≠ foldL b.1) := by
      rw [List.pairwise_append]
      refine ⟨hp, by simp, fun x hx y hy => ?_⟩
      rw [List.mem_singleton] at hy; subst hy
      unfold hasL at h3; rw [List.any_eq_false] at h3
      simpa using h3 x hx
    exact askA_pair r t (pre ++ [a]) (by simp [e]) (by rw [List.length_append]; exact h) hp2
theorem askA_typ (r : List Av) : ∀ (t : List Av) (i : Nat), i ≤ 8 → askA r i t = 0 → i + t.length ≤ 8 ∧ ∀ a ∈ t, typL a.1 = true
  | [], i, hi, _ => ⟨by simpa using hi, by simp⟩
  | a :: t, i, hi, h => by
    simp only [askA] at h
    split at h
    · cases h
    split at h
    · cases h
    split at h
    · cases h
    rename_i h1 h2 _
    have := askA_typ r t (i + 1) (by omega) h
    refine ⟨by simp; omega, fun b hb => ?_⟩
    rcases List.mem_cons.1 hb with rfl | hb
    · simpa using h2
    · exact this.2 b hb
theorem ask_VR {r : List Av} (h : askR r = 0) : VR r := by
  unfold askR at h
  split at h
  · cases h
  rename_i h0
  have h1 := askA_typ r r 0 (by omega) h
  exact ⟨h0, by omega, h1.2, askA_pair r r [] rfl h (by simp)⟩
theorem VR_ask {r : List Av} (h : VR r) : askR r = 0 := by
  unfold askR
  rw [if_neg h.1]
  have key : ∀ (t pre : List Av), pre ++ t = r → askA r pre.length t = 0 := by
    intro t
    induction t with
    | nil => intro pre _; simp [askA]
    | cons a t ih =>
      intro pre e
      have hlen : pre.length + 1 ≤ r.length := by rw [← e]; simp
      have hta : typL a.1 = true := h.2.2.1 a (by rw [← e]; simp)
      have htk : r.take pre.length = pre := by rw [← e]; simp
      have hh : hasL pre a.1 = false := has_no (t := t) (by rw [e]; exact h.2.2.2)
      have h8 := h.2.1
      simp only [askA, htk, hta, hh]
      rw [if_neg (by omega)]
      have := ih (pre ++ [a]) (by simp [e])
      rw [List.length_append] at this
      simpa using this
  exact key r [] rfl
theorem askF_VR : ∀ (d : List (List Av)) (i : Nat), i ≤ 32 → askF i d = 0 → i + d.length ≤ 32 ∧ ∀ r ∈ d, VR r
  | [], i, hi, _ => ⟨by simpa using hi, by simp⟩
  | r :: t, i, hi, h => by
    simp only [askF] at h
    split at h
    · cases h
    split at h
    · rename_i h1; exact absurd h h1
    rename_i h1 h2
    have := askF_VR t (i + 1) (by omega) h
    refine ⟨by simp; omega, fun b hb => ?_⟩
    rcases List.mem_cons.1 hb with rfl | hb
    · exact ask_VR (by simpa using h2)
    · exact this.2 b hb
theorem VR_askF : ∀ (d : List (List Av)) (i : Nat), i + d.length ≤ 32 → (∀ r ∈ d, VR r) → askF i d = 0
  | [], _, _, _ => by simp [askF]
  | r :: t, i, hi, h => by
    simp only [List.length_cons] at hi
    have h1 := VR_ask (h r (by simp))
    have h2 := VR_askF t (i + 1) (by omega) (fun x hx => h x (List.mem_cons_of_mem _ hx))
    simp only [askF, h1]
    rw [if_neg (by omega)]; simpa using h2
theorem printD_good {d : List (List Av)} {t : List UInt8} (h : printD d = .ok t) : d.length ≤ 32 ∧ (∀ r ∈ d, VR r) ∧ t = textL speltL d ∧ t.length ≤ 4096 := by
  unfold printD at h
  split at h
  · cases h
  split at h
  · cases h
  cases h
  rename_i h1 h2
  have h1 : askD d = 0 := by simpa using h1
  unfold askD at h1
  split at h1
  · rename_i h3; exact absurd h1 h3
  rename_i h3
  have := askF_VR d 0 (by omega) (by simpa using h3)
  exact ⟨by omega, this.2, rfl, by omega⟩
theorem text_ne {d : List (List Av)} (h : d ≠ []) (hv : ∀ r ∈ d, VR r) : textL speltL d ≠ [] := by
  match d, h with
  | r :: d, _ =>
    have hr := hv r (by simp)
    match r, hr.1 with
    | a :: r, _ =>
      intro e
      have hl := congrArg List.length e
      cases d with
      | nil =>
        cases r with
        | nil => simp [textL, List.intercalate, speltL, avL] at hl
        | cons b r => simp only [textL, speltL, List.map_cons, List.map_nil, inter_cons2] at hl; simp [List.intercalate, avL] at hl
      | cons q d => simp only [textL, List.map_cons, inter_cons2] at hl; simp at hl
/-- A name's text is read as the name. -/
theorem parse_text {d : List (List Av)} (h32 : d.length ≤ 32) (hv : ∀ r ∈ d, VR r) (hl : (textL speltL d).length ≤ 4096) : dnL (textL speltL d) = .ok d := by
  unfold dnL
  rw [if_neg (by omega)]
  by_cases h0 : d = []
  · subst h0; simp [textL, List.intercalate]
  · rw [if_neg (text_ne h0 hv), dn_spelt d [] 32 h0 h32 hv]; simp
theorem parse_print {d : List (List Av)} {t : List UInt8} (h : printD d = .ok t) : dnL t = .ok d := by
  obtain ⟨h1, h2, rfl, h4⟩ := printD_good h
  exact parse_text h1 h2 h4
end Go.Proofs.YtngdbhncafnliaaGreat.Mt

/-
  A key is its own key. Plain lists alone: nothing of the program stands here.
-/
namespace Go.Proofs.YtngdbhncafnliaaGreat.Mt

/-- In how many bytes a byte is written, wherever it stands. -/
def cstN (n : Nat) : Nat := if n = 0 then 3 else if n = 34 ∨ n = 43 ∨ n = 44 ∨ n = 59 ∨ n = 60 ∨ n = 62 ∨ n = 92 then 2 else 1
def bas : List UInt8 → Nat
  | [] => 0
  | c :: r => cstN c.toNat + bas r
theorem bas_append : ∀ a b : List UInt8, bas (a ++ b) = bas a + bas b
  | [], b => by simp [bas]
  | c :: r, b => by simp [bas, bas_append r b]; omega
theorem cst_sm (c : UInt8) : cstN (sm c).toNat = cstN c.toNat := by
  rw [sm_toNat]; unfold cstN smN
  by_cases h : 65 ≤ c.toNat ∧ c.toNat ≤ 90
  · rw [if_pos h, if_neg (by omega), if_neg (by omega), if_neg (by omega), if_neg (by omega)]
  · rw [if_neg h]
theorem zero_iff (c : UInt8) : c = 0 ↔ c.toNat = 0 := ⟨fun h => by rw [h]; rfl, fun h => u8_ext h⟩
theorem wr_low (f : Bool) : ∀ v : List UInt8, bas v + (if f && (v.head? == some 32 || v.head? == some 35) then 1 else 0) ≤ (wrF f v).length
  | [] => by simp [bas, wrF]
  | c :: r => by
    have ih := wr_low false r
    simp only [Bool.false_and, Bool.false_eq_true, if_false] at ih
    have e32 : (some c == some (32 : UInt8)) = decide (c.toNat = 32) := by
      rw [Bool.eq_iff_iff]; simp only [beq_iff_eq, Option.some.injEq, decide_eq_true_eq]; exact eq32 c
    have e35 : (some c == some (35 : UInt8)) = decide (c.toNat = 35) := by
      rw [Bool.eq_iff_iff]; simp only [beq_iff_eq, Option.some.injEq, decide_eq_true_eq]
      exact ⟨fun h => by rw [h]; rfl, fun h => u8_ext h⟩
    simp only [wrF, bas, List.head?_cons, List.length_append, e32, e35, zero_iff]
    generalize c.toNat = n
    by_cases h0 : n = 0
    · subst h0
      simp only [if_true, List.length_cons, List.length_nil, cstN]
      cases f <;> simp <;> omega
    · rw [if_neg h0]
      by_cases hg : guardN n f r.isEmpty = true
      · rw [if_pos hg]
        simp only [List.length_cons, List.length_nil]
        unfold cstN
        rw [if_neg h0]
        by_cases hs : n = 34 ∨ n = 43 ∨ n = 44 ∨ n = 59 ∨ n = 60 ∨ n = 62 ∨ n = 92
        · rw [if_pos hs]
          have h1 : decide (n = 32) = false := by simp; omega
          have h2 : decide (n = 35) = false := by simp; omega
          rw [h1, h2]; simp; omega
        · rw [if_neg hs]; split <;> omega
      · rw [if_neg hg]
        have hg : guardN n f r.isEmpty = false := by simpa using hg
        simp only [guardN, Bool.or_eq_false_iff, decide_eq_false_iff_not, Bool.and_eq_false_iff] at hg
        unfold cstN
        rw [if_neg h0, if_neg (by omega)]
        have h3 : (f && (decide (n = 32) || decide (n = 35))) = false := by
          cases f
          · rfl
          · have h1 : decide (n = 32) = false := by simp at hg ⊢; omega
            have h2 : decide (n = 35) = false := by simp at hg ⊢; omega
            rw [h1, h2]; rfl
        rw [h3]; simp; omega
theorem wr_up : ∀ (f : Bool) (v : List UInt8), (f = true → v.head? ≠ some 32) → v.getLast? ≠ some 32 → (wrF f v).length ≤ bas v + (if f && (v.head? == some 35) then 1 else 0)
  | _, [], _, _ => by simp [bas, wrF]
  | f, c :: r, hf, hl => by
    have hl2 : r.getLast? ≠ some 32 := by
      cases r with
      | nil => simp
      | cons d r => simpa [List.getLast?_cons_cons] using hl
    have ih := wr_up false r (fun h => by cases h) hl2
    simp only [Bool.false_and, Bool.false_eq_true, if_false] at ih
    have e35 : (some c == some (35 : UInt8)) = decide (c.toNat = 35) := by
      rw [Bool.eq_iff_iff]; simp only [beq_iff_eq, Option.some.injEq, decide_eq_true_eq]
      exact ⟨fun h => by rw [h]; rfl, fun h => u8_ext h⟩
    have h32 : c.toNat = 32 → f = false ∧ r.isEmpty = false := by
      intro h
      have hc : c = 32 := (eq32 c).2 h
      subst hc
      refine ⟨?_, ?_⟩
      · cases f
        · rfl
        · exact absurd rfl (hf rfl)
      · cases r with
        | nil => exact absurd rfl hl
        | cons d r => rfl
    simp only [wrF, bas, List.head?_cons, List.length_append, e35, zero_iff]
    generalize c.toNat = n at *
    by_cases h0 : n = 0
    · subst h0
      simp only [if_true, List.length_cons, List.length_nil, cstN]; omega
    · rw [if_neg h0]
      by_cases hg : guardN n f r.isEmpty = true
      · rw [if_pos hg]
        simp only [List.length_cons, List.length_nil]
        unfold cstN
        rw [if_neg h0]
        by_cases hs : n = 34 ∨ n = 43 ∨ n = 44 ∨ n = 59 ∨ n = 60 ∨ n = 62 ∨ n = 92
        · rw [if_pos hs]; omega
        · rw [if_neg hs]
          have h3 : (f && decide (n = 35)) = true := by
            simp only [guardN, Bool.or_eq_true, Bool.and_eq_true, decide_eq_true_eq] at hg
            rcases hg with (hg | ⟨hg, hx⟩) | ⟨hg, hx⟩
            · omega
            · have := h32 hg; rw [this.1, this.2] at hx; rcases hx with h | h <;> cases h
            · rw [hx, decide_eq_true hg]; rfl
          rw [h3]; simp; omega
      · rw [if_neg hg]
        have : 1 ≤ cstN n := by unfold cstN; split <;> (try split) <;> omega
        simp; omega

theorem run_bas (l : List UInt8) : bas (run l) ≤ bas l := by
  refine snoc_ind (P := fun l => bas (run l) ≤ bas l) (by simp [run]) (fun l c ih => ?_) l
  show bas (run (l ++ [c])) ≤ _
  rw [run_snoc, bas_append]; unfold step
  split
  · omega
  · rw [bas_append]; simp only [bas, cst_sm]; omega
theorem run_nil_blank (l : List UInt8) : run l = [] → ∀ c ∈ l, c = 32 := by
  refine snoc_ind (P := fun l => run l = [] → ∀ c ∈ l, c = 32) (by simp) (fun l c ih => ?_) l
  intro h
  rw [run_snoc] at h; unfold step at h
  split at h
  · rename_i h1
    intro x hx
    rw [List.mem_append, List.mem_singleton] at hx
    rcases hx with hx | rfl
    · exact ih h x hx
    · exact h1.1
  · simp at h
theorem run_head (l : List UInt8) : (run l).head? ≠ some 32 ∧ ((run l).head? = some 35 → l.head? = some 35 ∨ l.head? = some 32) := by
  refine snoc_ind (P := fun l => (run l).head? ≠ some 32 ∧ ((run l).head? = some 35 → l.head? = some 35 ∨ l.head? = some 32)) (by simp [run]) (fun l c ih => ?_) l
  show (run (l ++ [c])).head? ≠ some 32 ∧ ((run (l ++ [c])).head? = some 35 → (l ++ [c]).head? = some 35 ∨ (l ++ [c]).head? = some 32)
  have hh : ∀ x : UInt8, l.head? = some x → (l ++ [c]).head? = some x := fun x hx => by
    cases l with
    | nil => cases hx
    | cons a l => simpa using hx
  rw [run_snoc]; unfold step
  split
  · exact ⟨ih.1, fun h => (ih.2 h).imp (hh _) (hh _)⟩
  · rename_i h1
    cases hr : run l with
    | nil =>
      simp only [List.nil_append, List.head?_cons, Option.some.injEq, ne_eq]
      refine ⟨fun h => h1 ⟨(sm_blank c).1 h, by rw [hr]; rfl⟩, fun h => ?_⟩
      have hc : c = 35 := by
        have h2 : (sm c).toNat = 35 := by rw [h]; rfl
        rw [sm_toNat] at h2
        apply u8_ext; unfold smN at h2
        show c.toNat = 35
        split at h2 <;> omega
      cases l with
      | nil => left; simp [hc]
      | cons a l =>
        right
        have := run_nil_blank _ hr a (by simp)
        simp [this]
    | cons a o =>
      rw [hr] at ih
      simp only [List.cons_append, List.head?_cons] at ih ⊢
      exact ⟨ih.1, fun h => (ih.2 h).imp (hh _) (hh _)⟩
theorem prep_bas (l : List UInt8) : bas (prep l) ≤ bas l := by
  have h := run_bas l
  unfold prep
  split
  · have h2 : bas (run l) = bas (run l).dropLast + bas ((run l).getLast?.toList) := by
      rw [← bas_append]; congr 1
      cases hr : run l with
      | nil => rfl
      | cons a r =>
        rw [List.getLast?_eq_some_getLast (by simp)]
        simp only [Option.toList_some]
        exact (List.dropLast_concat_getLast (by simp)).symm
    omega
  · exact h
theorem prep_head (l : List UInt8) : (prep l).head? ≠ some 32 ∧ ((prep l).head? = some 35 → l.head? = some 35 ∨ l.head? = some 32) := by
  have h := run_head l
  unfold prep
  split
  · cases hr : run l with
    | nil => simp
    | cons a r =>
      rw [hr] at h
      cases r with
      | nil => simp
      | cons b r => simpa using h
  · exact h
theorem prep_last (l : List UInt8) : (prep l).getLast? ≠ some 32 := by
  obtain ⟨a, b, rfl, hb, ha⟩ := parts l
  rw [prep_parts a b ha hb]
  rcases ha with rfl | ⟨x, c, rfl, hc⟩
  · simp [run]
  · by_cases h : run (x ++ [c]) = []
    · rw [h]; simp
    · intro h2; exact hc ((last_run x c h).1 h2)
theorem wr_prep (v : List UInt8) : (wrL (prep v)).length ≤ (wrL v).length := by
  have h1 := wr_up true (prep v) (fun _ => (prep_head v).1) (prep_last v)
  have h2 := wr_low true v
  have h3 := prep_bas v
  unfold wrL
  by_cases h : (prep v).head? = some 35
  · have h4 : (v.head? == some 32 || v.head? == some 35) = true := by
      rcases (prep_head v).2 h with h | h <;> rw [h] <;> rfl
    rw [h4] at h2
    rw [h] at h1
    simp at h1 h2; omega
  · have h4 : ((prep v).head? == some 35) = false := by simpa using h
    rw [h4] at h1
    simp at h1; omega
theorem av_plain_len (a : Av) : (avL (plainA a)).length ≤ (avL a).length := by
  have := wr_prep a.2
  simp only [avL, plainA, foldL, List.length_append, List.length_map, List.length_singleton]; omega

/-! ### sorted -/
theorem le_trans9 (a b c : List UInt8) : leB a b = true → leB b c = true → leB a c = true := by
  simp only [leB, decide_eq_true_eq]; exact fun h1 h2 => List.le_trans h1 h2
theorem le_total9 (a b : List UInt8) : (leB a b || leB b a) = true := by
  simp only [leB, Bool.or_eq_true, decide_eq_true_eq]; exact List.le_total a b
/-- An RDN without what makes no difference. -/
def sortA (r : List Av) : List Av := (r.map plainA).mergeSort fun a b => leB (avL a) (avL b)
theorem spelt_sort (r : List Av) : speltL (sortA r) = normL r := by
  unfold speltL sortA normL
  rw [List.map_mergeSort (s := leB) (fun a _ b _ => rfl), List.map_map]; rfl
theorem sort_perm (r : List Av) : (sortA r).Perm (r.map plainA) := List.mergeSort_perm _ _
theorem plain_plain (a : Av) : plainA (plainA a) = plainA a := by
  simp only [plainA, foldL, prep_prep, fold_fold]
theorem sort_plain {r : List Av} {a : Av} (h : a ∈ sortA r) : plainA a = a := by
  have := (sort_perm r).mem_iff.1 h
  rw [List.mem_map] at this
  obtain ⟨b, _, rfl⟩ := this
  exact plain_plain b
theorem norm_sort (r : List Av) : normL (sortA r) = normL r := by
  have e : (sortA r).map (fun a => avL (plainA a)) = normL r := by
    rw [← spelt_sort]; unfold speltL
    exact List.map_congr_left fun a ha => by rw [sort_plain ha]
  unfold normL at e ⊢
  rw [e]
  exact List.mergeSort_of_pairwise (List.pairwise_mergeSort le_trans9 le_total9 _)
theorem typ_fold {t : List UInt8} (h : typL t = true) : typL (foldL t) = true := by
  match t with
  | c :: r =>
    have hlet : ∀ x : UInt8, letN (sm x).toNat = letN x.toNat := fun x => by
      rw [sm_toNat]; unfold letN smN
      by_cases h : 65 ≤ x.toNat ∧ x.toNat ≤ 90
      · rw [if_pos h, Bool.eq_iff_iff]; simp only [decide_eq_true_eq]; omega
      · rw [if_neg h]
    have hty : ∀ x : UInt8, tyN (sm x).toNat = tyN x.toNat := fun x => by
      unfold tyN; rw [hlet, sm_toNat]; unfold digN letN smN
      by_cases h : 65 ≤ x.toNat ∧ x.toNat ≤ 90
      · rw [if_pos h, Bool.eq_iff_iff]; simp only [Bool.or_eq_true, decide_eq_true_eq]; omega
      · rw [if_neg h]
    simp only [typL, foldL, List.map_cons, Bool.and_eq_true, decide_eq_true_eq, List.length_map, hlet] at h ⊢
    refine ⟨h.1, ?_⟩
    rw [List.all_eq_true] at h ⊢
    intro x hx
    rw [List.mem_map] at hx
    obtain ⟨y, hy, rfl⟩ := hx
    rw [hty]; exact h.2 y hy
theorem sort_VR {r : List Av} (h : VR r) : VR (sortA r) := by
  have hp := sort_perm r
  refine ⟨fun e => ?_, ?_, fun a ha => ?_, ?_⟩
  · have := hp.length_eq; rw [e] at this; simp at this; exact h.1 (List.eq_nil_of_length_eq_zero this.symm)
  · rw [hp.length_eq, List.length_map]; exact h.2.1
  · have := hp.mem_iff.1 ha
    rw [List.mem_map] at this
    obtain ⟨b, hb, rfl⟩ := this
    exact typ_fold (h.2.2.1 b hb)
  · refine (hp.pairwise_iff (fun {a b} hab => Ne.symm hab)).2 ?_
    rw [List.pairwise_map]
    refine h.2.2.2.imp fun {a b} hab => ?_
    simp only [plainA, foldL, fold_fold]; exact hab

theorem inter_sum (sep : List UInt8) (hs : sep.length = 1) : ∀ ls : List (List UInt8), (sep.intercalate ls).length = (ls.map List.length).sum + (ls.length - 1)
  | [] => by simp [List.intercalate]
  | [a] => by simp [List.intercalate]
  | a :: b :: r => by
    rw [inter_cons2, List.length_append, List.length_append, hs, inter_sum sep hs (b :: r)]
    simp; omega
theorem sum_le {α : Type} (f g : α → Nat) (h : ∀ a, f a ≤ g a) : ∀ l : List α, (l.map f).sum ≤ (l.map g).sum
  | [] => by simp
  | a :: l => by have := sum_le f g h l; have := h a; simp; omega
theorem norm_len_le (r : List Av) : ([43].intercalate (normL r)).length ≤ ([43].intercalate (speltL r)).length := by
  rw [inter_sum [43] rfl, inter_sum [43] rfl]
  have hp : (normL r).Perm (r.map fun a => avL (plainA a)) := List.mergeSort_perm _ _
  have h1 : ((normL r).map List.length).sum = ((r.map fun a => avL (plainA a)).map List.length).sum := (hp.map _).sum_nat
  have h2 := hp.length_eq
  rw [h1, h2, List.map_map]
  have h3 : (r.map (List.length ∘ fun a => avL (plainA a))).sum ≤ ((speltL r).map List.length).sum := by
    unfold speltL; rw [List.map_map]
    exact sum_le _ _ (fun a => av_plain_len a) r
  have h4 : (speltL r).length = r.length := by simp [speltL]
  rw [List.length_map, h4]; omega
theorem text_len_le (d : List (List Av)) : (textL normL d).length ≤ (textL speltL d).length := by
  unfold textL
  rw [inter_sum [44] rfl, inter_sum [44] rfl, List.map_map, List.map_map, List.length_map, List.length_map]
  have := sum_le (List.length ∘ fun r => [43].intercalate (normL r)) (List.length ∘ fun r => [43].intercalate (speltL r)) (fun r => norm_len_le r) d
  omega
theorem text_sort (d : List (List Av)) : textL speltL (d.map sortA) = textL normL d := by
  unfold textL; rw [List.map_map]; congr 1
  exact List.map_congr_left fun r _ => by simp only [Function.comp, spelt_sort]
theorem text_norm_sort (d : List (List Av)) : textL normL (d.map sortA) = textL normL d := by
  unfold textL; rw [List.map_map]; congr 1
  exact List.map_congr_left fun r _ => by simp only [Function.comp, norm_sort]
theorem printD_of {d : List (List Av)} (h32 : d.length ≤ 32) (hv : ∀ r ∈ d, VR r) (hl : (textL speltL d).length ≤ 4096) (hlong : d.any longR = false) : printD d = .ok (textL speltL d) := by
  have h0 : askD d = 0 := by
    unfold askD
    rw [VR_askF d 0 (by omega) hv, hlong]; rfl
  unfold printD
  rw [h0, if_neg (by simp), if_neg (by omega)]
theorem print_long {d : List (List Av)} {t : List UInt8} (h : printD d = .ok t) : d.any longR = false := by
  unfold printD at h
  split at h
  · cases h
  rename_i h1
  have h1 : askD d = 0 := by simpa using h1
  unfold askD at h1
  split at h1
  · rename_i h3; exact absurd h1 h3
  split at h1
  · cases h1
  · rename_i h2; simpa using h2
theorem sort_long {d : List (List Av)} (h : d.any longR = false) : (d.map sortA).any longR = false := by
  rw [List.any_eq_false] at h ⊢
  intro r hr
  rw [List.mem_map] at hr
  obtain ⟨q, hq, rfl⟩ := hr
  have h1 := h q hq
  simp only [longR, List.any_eq_true, not_exists, not_and, decide_eq_true_eq] at h1 ⊢
  intro a ha
  have := (sort_perm q).mem_iff.1 ha
  rw [List.mem_map] at this
  obtain ⟨b, hb, rfl⟩ := this
  have h2 := h1 b hb
  have h3 := prep_length b.2
  simp only [plainA]; omega
/-- The key of a name, read, is the name without what makes no difference. -/
theorem key_reads {d : List (List Av)} {k : List UInt8} (h : keyD d = .ok k) : dnL k = .ok (d.map sortA) ∧ printD (d.map sortA) = .ok k := by
  unfold keyD at h
  cases hp : printD d with
  | error e => rw [hp] at h; cases h
  | ok t =>
    rw [hp] at h; cases h
    obtain ⟨h1, h2, rfl, h4⟩ := printD_good hp
    have hv : ∀ r ∈ d.map sortA, VR r := by
      intro r hr
      rw [List.mem_map] at hr
      obtain ⟨q, hq, rfl⟩ := hr
      exact sort_VR (h2 q hq)
    have hl : (textL speltL (d.map sortA)).length ≤ 4096 := by rw [text_sort]; have := text_len_le d; omega
    have h5 := printD_of (d := d.map sortA) (by simpa using h1) hv hl (sort_long (print_long hp))
    have h6 := parse_print h5
    rw [text_sort] at h5 h6
    exact ⟨h6, h5⟩
/-- A key is its own key. -/
theorem key_key {d : List (List Av)} {k : List UInt8} (h : keyD d = .ok k) : keyL k = .ok k := by
  have h1 := key_reads h
  unfold keyL
  rw [h1.1]
  simp only [keyD, h1.2]
  unfold keyD at h
  cases hp : printD d with
  | error e => rw [hp] at h; cases h
  | ok t => rw [hp] at h; cases h; rw [text_norm_sort]
end Go.Proofs.YtngdbhncafnliaaGreat.Mt

/-
  An RDN sorted by putting one behind the other. Plain lists alone: nothing of the program stands here.
-/
namespace Go.Proofs.YtngdbhncafnliaaGreat.Mt

/-- Where one more belongs. -/
def InsOK (l : List Av) (x : Av) (n : Nat) : Prop := n ≤ l.length ∧ (∀ h : 0 < n, ∀ h2 : n - 1 < l.length, leB (avL (l[n - 1])) (avL x) = true) ∧ ∀ j (h : j < l.length), n ≤ j → leB (avL l[j]) (avL x) = false
def insA (l : List Av) (x : Av) (n : Nat) : List Av := l.take n ++ [x] ++ l.drop n
theorem ins_perm (l : List Av) (x : Av) (n : Nat) : (insA l x n).Perm (l ++ [x]) := by
  unfold insA
  rw [List.append_assoc]
  have h1 : ([x] ++ l.drop n).Perm (l.drop n ++ [x]) := List.perm_append_comm
  have h2 := h1.append_left (l.take n)
  rw [← List.append_assoc (l.take n) (l.drop n), List.take_append_drop] at h2
  exact h2
theorem le_of_not (a b : List UInt8) (h : leB a b = false) : leB b a = true := by
  have := le_total9 a b
  rw [h] at this; simpa using this
theorem ins_sorted {l : List Av} {x : Av} {n : Nat} (hs : (l.map avL).Pairwise (fun a b => leB a b = true)) (hi : InsOK l x n) : ((insA l x n).map avL).Pairwise (fun a b => leB a b = true) := by
  unfold insA
  rw [List.pairwise_map] at hs ⊢
  have hsplit : (l.take n ++ l.drop n).Pairwise (fun a b => leB (avL a) (avL b) = true) := by rw [List.take_append_drop]; exact hs
  rw [List.pairwise_append] at hsplit
  have hbefore : ∀ a ∈ l.take n, leB (avL a) (avL x) = true := by
    intro a ha
    obtain ⟨j, hj, rfl⟩ := List.mem_iff_getElem.1 ha
    have hj2 := hj
    rw [List.length_take] at hj2
    have hil := hi.1
    rw [List.getElem_take]
    have hn : 0 < n := by omega
    have hl : n - 1 < l.length := by omega
    have h1 := hi.2.1 hn hl
    by_cases e : j = n - 1
    · subst e; exact h1
    · rw [List.pairwise_iff_getElem] at hs
      exact le_trans9 _ _ _ (hs j (n - 1) (by omega) hl (by omega)) h1
  have hafter : ∀ a ∈ l.drop n, leB (avL x) (avL a) = true := by
    intro a ha
    obtain ⟨j, hj, rfl⟩ := List.mem_iff_getElem.1 ha
    have hj2 := hj
    rw [List.length_drop] at hj2
    rw [List.getElem_drop]
    exact le_of_not _ _ (hi.2.2 (n + j) (by omega) (by omega))
  rw [List.append_assoc, List.pairwise_append]
  refine ⟨hsplit.1, ?_, ?_⟩
  · rw [List.singleton_append, List.pairwise_cons]
    exact ⟨hafter, hsplit.2.1⟩
  · intro a ha b hb
    rw [List.singleton_append, List.mem_cons] at hb
    rcases hb with rfl | hb
    · exact hbefore a ha
    · exact hsplit.2.2 a ha b hb
theorem le_anti9 {a b : List UInt8} (h1 : leB a b = true) (h2 : leB b a = true) : a = b := by
  simp only [leB, decide_eq_true_eq] at h1 h2
  exact List.le_antisymm h1 h2
theorem sorted_eq : ∀ {a b : List (List UInt8)}, a.Pairwise (fun a b => leB a b = true) → b.Pairwise (fun a b => leB a b = true) → a.Perm b → a = b
  | [], b, _, _, hp => (List.perm_nil.1 hp.symm).symm
  | x :: a, [], _, _, hp => by have := hp.length_eq; simp at this
  | x :: a, y :: b, ha, hb, hp => by
    rw [List.pairwise_cons] at ha hb
    have hxy : x = y := by
      have h1 : x ∈ y :: b := hp.mem_iff.1 (by simp)
      have h2 : y ∈ x :: a := hp.mem_iff.2 (by simp)
      rcases List.mem_cons.1 h1 with h1 | h1
      · exact h1
      · rcases List.mem_cons.1 h2 with h2 | h2
        · exact h2.symm
        · exact le_anti9 (ha.1 y h2) (hb.1 x h1)
    subst hxy
    rw [sorted_eq ha.2 hb.2 (List.Perm.cons_inv hp)]
/-- One after the other, each where it belongs: the texts are those of the key. -/
theorem ins_norm {l r : List Av} (hs : (l.map avL).Pairwise (fun a b => leB a b = true)) (hp : l.Perm (r.map plainA)) : speltL l = normL r := by
  unfold speltL normL
  refine sorted_eq hs (List.pairwise_mergeSort le_trans9 le_total9 _) ?_
  have h1 := hp.map avL
  rw [List.map_map] at h1
  exact h1.trans (List.mergeSort_perm _ _).symm
theorem ins_step {l r : List Av} {x : Av} {k n : Nat} (hk : k < r.length) (hx : x = plainA r[k]) (hp : l.Perm ((r.take k).map plainA)) : (insA l x n).Perm ((r.take (k + 1)).map plainA) := by
  rw [List.take_succ_eq_append_getElem hk, List.map_append]
  refine (ins_perm l x n).trans ?_
  rw [hx]
  exact hp.append_right _
end Go.Proofs.YtngdbhncafnliaaGreat.Mt
