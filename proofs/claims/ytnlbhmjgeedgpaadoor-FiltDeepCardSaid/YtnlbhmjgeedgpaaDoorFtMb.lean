/-
  What texts say filters, part by part: how a leaf's text is cut by its signs, and how it is read sign by sign: the same.
-/
import Derived.Test.YtnlbhmjgeedgpaaDoorFtMath
set_option linter.unusedVariables false
set_option linter.unusedSimpArgs false
namespace Go.Proofs.YtnlbhmjgeedgpaaDoor.Mt

/-! ### a value's parts -/
theorem hv_not (c : UInt8) (h : c = 41 ∨ c = 42) : hv c.toNat = none := by
  rcases h with rfl | rfl <;> decide
theorem unhex2_no (a b : UInt8) (h : a = 41 ∨ a = 42 ∨ b = 41 ∨ b = 42) : (unhex [a, b]).2 = false := by
  rw [unhex_two']
  rcases h with h | h | h | h
  · rw [hv_not a (.inl h)]
  · rw [hv_not a (.inr h)]
  · rw [hv_not b (.inl h)]; cases hv a.toNat <;> rfl
  · rw [hv_not b (.inr h)]; cases hv a.toNat <;> rfl
def withY (y : List UInt8) : Option (List (List UInt8)) → Option (List (List UInt8) × List UInt8)
  | none => none
  | some ps => some (ps, y)
theorem onFst_none (t : List UInt8) : onFst t none = none := rfl
/-- The first part with a text ahead. -/
theorem readAll_onFst {t : List UInt8} {p : List UInt8} {ps : List (List UInt8)} {q : List UInt8} (y : List UInt8) (h : readF q = (readF p).map (t ++ ·)) : withY y (readAllF (q :: ps)) = onFst t (withY y (readAllF (p :: ps))) := by
  simp only [readAllF, h]
  cases readF p with
  | none => rfl
  | some v =>
    simp only [Option.map]
    cases readAllF ps with
    | none => rfl
    | some vs => rfl
theorem split_cons_ne {d c : UInt8} {r : List UInt8} (h : c ≠ d) : ∃ p ps, splitF d r = p :: ps ∧ splitF d (c :: r) = (c :: p) :: ps := by
  cases hs : splitF d r with
  | nil => exact absurd hs (splitF_ne d r)
  | cons p ps => exact ⟨p, ps, rfl, by simp only [splitF]; rw [if_neg h, hs]⟩
theorem readF_plain {c : UInt8} {r : List UInt8} (h : guardF c = false) : readF (c :: r) = (readF r).map ([c] ++ ·) := by
  conv => lhs; unfold readF
  rw [if_pos h]; rfl
theorem readF_bad {c : UInt8} {r : List UInt8} (h : guardF c = true) (h2 : c ≠ 92) : readF (c :: r) = none := by
  unfold readF
  rw [if_neg (by rw [h]; decide), if_neg h2]
theorem readF_hex {a b : UInt8} {r : List UInt8} : readF (92 :: a :: b :: r) = if (unhex [a, b]).2 = true then (readF r).map ((unhex [a, b]).1 ++ ·) else none := by
  conv => lhs; unfold readF
  rw [if_neg (by decide), if_pos rfl]
theorem readF_short {r : List UInt8} (h : r.length < 2) : readF (92 :: r) = none := by
  unfold readF
  rw [if_neg (by decide), if_pos rfl]
  match r, h with
  | [], _ => rfl
  | [a], _ => rfl
theorem readAll_bad {q : List UInt8} {ps : List (List UInt8)} (h : readF q = none) : readAllF (q :: ps) = none := by simp [readAllF, h]
theorem valP_eq (k : Nat) : ∀ (t y : List UInt8), t.length ≤ k → (∀ c ∈ t, c ≠ 41) → valP (t ++ 41 :: y) = withY y (readAllF (splitF 42 t)) := by
  have hnil : ∀ y : List UInt8, valP ([] ++ 41 :: y) = withY y (readAllF (splitF 42 [])) := fun y => by
    rw [List.nil_append]
    unfold valP
    rw [if_pos rfl]; rfl
  induction k with
  | zero =>
    intro t y hk _
    have : t = [] := List.eq_nil_of_length_eq_zero (by omega)
    subst this
    exact hnil y
  | succ k ih =>
  intro t y hk ht
  match t, hk, ht with
  | [], _, _ => exact hnil y
  | c :: r, hk, ht =>
    have hc : c ≠ 41 := ht c (by simp)
    have hr : ∀ c ∈ r, c ≠ 41 := fun x hx => ht x (by simp [hx])
    simp only [List.length_cons] at hk
    rw [List.cons_append]
    conv => lhs; unfold valP
    rw [if_neg hc]
    by_cases h42 : c = 42
    · rw [if_pos h42, ih r y (by omega) hr]
      simp only [splitF, if_pos h42, readAllF, readF]
      cases readAllF (splitF 42 r) <;> rfl
    · rw [if_neg h42]
      obtain ⟨p, ps, e1, e2⟩ := split_cons_ne (r := r) h42
      by_cases h92 : c = 92
      · rw [if_pos h92]
        subst h92
        match r, hr, hk, e1 with
        | [], _, _, e1 =>
          have e3 : splitF 42 [92] = [[92]] := rfl
          rw [e3, readAll_bad (readF_short (by simp))]
          match y with
          | [] => rfl
          | b :: t =>
            simp only [List.nil_append]
            rw [if_neg (by rw [unhex2_no 41 b (.inl rfl)]; decide)]
            rfl
        | [a], hr, _, e1 =>
          have ha : a ≠ 41 := hr a (by simp)
          simp only [List.cons_append, List.nil_append]
          rw [if_neg (by rw [unhex2_no a 41 (.inr (.inr (.inl rfl)))]; decide)]
          by_cases ha2 : a = 42
          · subst ha2
            have e3 : splitF 42 [92, 42] = [[92], []] := rfl
            rw [e3, readAll_bad (readF_short (by simp))]; rfl
          · have e3 : splitF 42 [92, a] = [[92, a]] := by simp [splitF, ha2]
            rw [e3, readAll_bad (readF_short (by simp))]; rfl
        | a :: b :: t, hr, hk, e1 =>
          simp only [List.length_cons] at hk
          simp only [List.cons_append]
          by_cases hu : (unhex [a, b]).2 = true
          · rw [if_pos hu, ih t y (by omega) (fun x hx => hr x (by simp [hx]))]
            have ha : a ≠ 42 := fun e => by rw [unhex2_no a b (.inr (.inl e))] at hu; cases hu
            have hb : b ≠ 42 := fun e => by rw [unhex2_no a b (.inr (.inr (.inr e)))] at hu; cases hu
            obtain ⟨p1, ps1, f1, f2⟩ := split_cons_ne (r := t) hb
            obtain ⟨p2, ps2, f3, f4⟩ := split_cons_ne (r := b :: t) ha
            rw [f2] at f3
            injection f3 with g1 g2
            subst g1 g2
            rw [f4] at e1
            injection e1 with g1 g2
            subst g1 g2
            rw [e2, f1]
            exact (readAll_onFst y (by rw [readF_hex, if_pos hu])).symm
          · rw [if_neg hu]
            by_cases ha : a = 42
            · subst ha
              have e3 : splitF 42 (92 :: 42 :: b :: t) = [92] :: splitF 42 (b :: t) := by simp [splitF]
              rw [e3, readAll_bad (readF_short (by simp))]; rfl
            · by_cases hb : b = 42
              · subst hb
                have e3 : splitF 42 (92 :: a :: 42 :: t) = [92, a] :: splitF 42 t := by simp [splitF, ha]
                rw [e3, readAll_bad (readF_short (by simp))]; rfl
              · obtain ⟨p1, ps1, f1, f2⟩ := split_cons_ne (r := t) hb
                obtain ⟨p2, ps2, f3, f4⟩ := split_cons_ne (r := b :: t) ha
                rw [f2] at f3
                injection f3 with g1 g2
                subst g1 g2
                rw [f4] at e1
                injection e1 with g1 g2
                subst g1 g2
                rw [e2, readAll_bad (by rw [readF_hex, if_neg hu])]; rfl
      · rw [if_neg h92]
        by_cases hg : c = 0 ∨ c = 40
        · rw [if_pos hg, e2, readAll_bad (readF_bad (by rcases hg with rfl | rfl <;> rfl) h92)]; rfl
        · rw [if_neg hg, ih r y (by omega) hr, e2, e1]
          have hgf : guardF c = false := by
            simp only [not_or] at hg
            simp [guardF, hg.1, hg.2, hc, h42, h92]
          exact (readAll_onFst y (readF_plain hgf)).symm
theorem valP_no : ∀ (l : List UInt8), (∀ c ∈ l, c ≠ 41) → valP l = none
  | [], _ => rfl
  | c :: r, h => by
    have hr : ∀ c ∈ r, c ≠ 41 := fun x hx => h x (by simp [hx])
    unfold valP
    rw [if_neg (h c (by simp))]
    split
    · rw [valP_no r hr]; rfl
    · split
      · split
        · rename_i a b t
          split
          · rw [valP_no t (fun x hx => hr x (by simp [hx]))]; rfl
          · rfl
        · rfl
      · split
        · rfl
        · rw [valP_no r hr]; rfl
/-- Where a byte first stands. -/
def cutC (d : UInt8) : List UInt8 → Option (List UInt8 × List UInt8)
  | [] => none
  | c :: r => if c = d then some ([], r) else (cutC d r).map fun p => (c :: p.1, p.2)
theorem cutC_none {d : UInt8} : ∀ {l : List UInt8}, cutC d l = none → ∀ c ∈ l, c ≠ d
  | [], _, c, hc => by cases hc
  | x :: r, h, c, hc => by
    simp only [cutC] at h
    split at h
    · cases h
    · rename_i hx
      rcases List.mem_cons.1 hc with rfl | hc
      · exact hx
      · exact cutC_none (by simpa using h) c hc
theorem cutC_some {d : UInt8} : ∀ {l a b : List UInt8}, cutC d l = some (a, b) → l = a ++ d :: b ∧ ∀ c ∈ a, c ≠ d
  | [], _, _, h => by cases h
  | x :: r, a, b, h => by
    simp only [cutC] at h
    split at h
    · rename_i hx
      simp only [Option.some.injEq, Prod.mk.injEq] at h
      obtain ⟨rfl, rfl⟩ := h
      exact ⟨by rw [hx]; rfl, by simp⟩
    · rename_i hx
      cases hc : cutC d r with
      | none => rw [hc] at h; cases h
      | some p =>
        obtain ⟨a', b'⟩ := p
        rw [hc] at h
        simp only [Option.map, Option.some.injEq, Prod.mk.injEq] at h
        obtain ⟨rfl, rfl⟩ := h
        obtain ⟨h1, h2⟩ := cutC_some hc
        refine ⟨by rw [h1]; rfl, fun c hc => ?_⟩
        rcases List.mem_cons.1 hc with rfl | hc
        · exact hx
        · exact h2 c hc
theorem cutC_at {d : UInt8} : ∀ {a b : List UInt8}, (∀ c ∈ a, c ≠ d) → cutC d (a ++ d :: b) = some (a, b)
  | [], b, _ => by simp [cutC]
  | x :: r, b, h => by
    simp only [List.cons_append, cutC]
    rw [if_neg (h x (by simp)), cutC_at (fun c hc => h c (by simp [hc]))]; rfl
/-- What the sign at the end of what is ahead of an equals sign tells. -/
def kOf (l : List UInt8) : Int × List UInt8 := match l.getLast? with
  | some c => if c = 62 then (5, l.dropLast) else if c = 60 then (6, l.dropLast) else if c = 126 then (8, l.dropLast) else (3, l)
  | none => (3, l)
theorem tyN_sign {c : UInt8} (h : tyN c.toNat = true) : c ≠ 41 ∧ c ≠ 61 ∧ c ≠ 62 ∧ c ≠ 60 ∧ c ≠ 126 := by
  refine ⟨?_, ?_, ?_, ?_, ?_⟩ <;> (rintro rfl; revert h; decide)
theorem letN_ty {n : Nat} (h : letN n = true) : tyN n = true := by simp [tyN, h]
theorem typPre_all : ∀ (l : List UInt8), ∀ c ∈ typPre l, tyN c.toNat = true
  | [], c, h => by cases h
  | x :: r, c, h => by
    simp only [typPre] at h
    split at h
    · rename_i hl
      rcases List.mem_cons.1 h with rfl | h
      · exact letN_ty hl
      · have := List.mem_of_mem_take h
        exact (List.all_takeWhile (p := fun c : UInt8 => tyN c.toNat) (l := r) |> List.all_eq_true.1) c this
    · cases h
theorem typPre_typ {l : List UInt8} (h : typPre l ≠ []) : typL (typPre l) = true := by
  have ha := typPre_all l
  have hl := (typPre_len l).1
  match l with
  | [] => exact absurd rfl h
  | c :: r =>
    simp only [typPre] at h ha hl ⊢
    split
    · rename_i hc
      rw [if_pos hc] at ha hl
      simp only [typL, List.length_cons] at hl ⊢
      rw [decide_eq_true (by omega), hc]
      simp only [Bool.and_self, Bool.true_and, List.all_eq_true]
      exact fun x hx => ha x (by simp [hx])
    · rename_i hc; rw [if_neg hc] at h; exact absurd rfl h
theorem typPre_split (l : List UInt8) : l = typPre l ++ l.drop (typPre l).length := by
  match l with
  | [] => rfl
  | c :: r =>
    simp only [typPre]
    split
    · have h1 := List.takeWhile_append_dropWhile (p := fun c : UInt8 => tyN c.toNat) (l := r)
      have h2 : (r.takeWhile fun c => tyN c.toNat).take 31 <+: r := (List.take_prefix _ _).trans (List.takeWhile_prefix _)
      rw [List.length_cons, List.drop_succ_cons, List.cons_append]
      congr 1
      conv => lhs; rw [← List.take_append_drop ((r.takeWhile fun c => tyN c.toNat).take 31).length r]
      congr 1
      exact (List.prefix_iff_eq_take.1 h2).symm
    · simp
/-- A type with a sign behind it is what its text begins with. -/
theorem typPre_of {a x : List UInt8} (ha : typL a = true) (hx : ∀ c r, x = c :: r → tyN c.toNat = false) : typPre (a ++ x) = a := by
  match a with
  | [] => cases ha
  | c :: r =>
    simp only [typL, Bool.and_eq_true, decide_eq_true_eq] at ha
    obtain ⟨⟨h1, h2⟩, h3⟩ := ha
    simp only [List.cons_append, typPre]
    rw [if_pos h2]
    congr 1
    have h4 : (r ++ x).takeWhile (fun c : UInt8 => tyN c.toNat) = r := by
      rw [List.takeWhile_append_of_pos (by simpa [List.all_eq_true] using h3)]
      match x with
      | [] => simp
      | d :: y => rw [List.takeWhile_cons_of_neg (by rw [hx d y rfl]; decide)]; simp
    rw [h4, List.take_of_length_le (by omega)]
theorem afterA_some {l : List UInt8} {k : Int} {x : List UInt8} (h : afterA l = some (k, x)) : ∃ s, l = s ++ 61 :: x ∧ (s = [] ∧ k = 3 ∨ ∃ c, s = [c] ∧ (c = 62 ∧ k = 5 ∨ c = 60 ∧ k = 6 ∨ c = 126 ∧ k = 8)) := by
  match l with
  | [] => cases h
  | c :: r =>
    simp only [afterA] at h
    split at h
    · rename_i hc
      simp only [Option.some.injEq, Prod.mk.injEq] at h
      obtain ⟨rfl, rfl⟩ := h
      exact ⟨[], by rw [hc]; rfl, .inl ⟨rfl, rfl⟩⟩
    · split at h
      · rename_i hc
        split at h
        · cases h
        · split at h
          · rename_i hd
            simp only [Option.some.injEq, Prod.mk.injEq] at h
            obtain ⟨rfl, rfl⟩ := h
            refine ⟨[c], by rw [hd]; rfl, .inr ⟨c, rfl, ?_⟩⟩
            rcases hc with rfl | rfl | rfl
            · exact .inl ⟨rfl, rfl⟩
            · exact .inr (.inl ⟨rfl, rfl⟩)
            · exact .inr (.inr ⟨rfl, rfl⟩)
          · cases h
      · cases h
theorem kOf_snoc (a : List UInt8) (c : UInt8) : kOf (a ++ [c]) = if c = 62 then (5, a) else if c = 60 then (6, a) else if c = 126 then (8, a) else (3, a ++ [c]) := by
  unfold kOf
  simp
theorem kOf_spec (l : List UInt8) : ∃ s, l = (kOf l).2 ++ s ∧ (s = [] ∧ (kOf l).1 = 3 ∨ ∃ c, s = [c] ∧ (c = 62 ∧ (kOf l).1 = 5 ∨ c = 60 ∧ (kOf l).1 = 6 ∨ c = 126 ∧ (kOf l).1 = 8)) := by
  rcases List.eq_nil_or_concat l with rfl | ⟨a, c, rfl⟩
  · exact ⟨[], rfl, .inl ⟨rfl, rfl⟩⟩
  · rw [List.concat_eq_append, kOf_snoc]
    split
    · rename_i h; exact ⟨[c], rfl, .inr ⟨c, rfl, .inl ⟨h, rfl⟩⟩⟩
    · split
      · rename_i h; exact ⟨[c], rfl, .inr ⟨c, rfl, .inr (.inl ⟨h, rfl⟩)⟩⟩
      · split
        · rename_i h; exact ⟨[c], rfl, .inr ⟨c, rfl, .inr (.inr ⟨h, rfl⟩)⟩⟩
        · exact ⟨[], by simp, .inl ⟨rfl, rfl⟩⟩
/-- A leaf's text, cut by its signs. -/
def leafC (l : List UInt8) : Except Nat (Fl × List UInt8) := match cutC 41 l with
  | none => .error 4
  | some (t, y) => match cutC 61 t with
    | none => .error 4
    | some (left, right) => if typL (kOf left).2 = true then match readAllF (splitF 42 right) with
        | none => .error 4
        | some ps => match flL (kOf left).1 ps with
          | none => .error 4
          | some (k', v, q) => .ok (.mk k' (kOf left).2 v q [], 41 :: y)
      else .error 4
theorem typL_all {a : List UInt8} (h : typL a = true) : ∀ c ∈ a, tyN c.toNat = true := by
  match a with
  | [] => cases h
  | c :: r =>
    simp only [typL, Bool.and_eq_true, List.all_eq_true] at h
    obtain ⟨⟨_, h2⟩, h3⟩ := h
    intro x hx
    rcases List.mem_cons.1 hx with rfl | hx
    · exact letN_ty h2
    · exact h3 x hx
theorem sign_facts {s : List UInt8} {k : Int} (h : s = [] ∧ k = 3 ∨ ∃ c, s = [c] ∧ (c = 62 ∧ k = 5 ∨ c = 60 ∧ k = 6 ∨ c = 126 ∧ k = 8)) : (∀ c ∈ s, c ≠ 41 ∧ c ≠ 61) ∧ ∀ a : List UInt8, (∀ c ∈ a, tyN c.toNat = true) → kOf (a ++ s) = (k, a) := by
  rcases h with ⟨rfl, rfl⟩ | ⟨c, rfl, h⟩
  · refine ⟨by simp, fun a ha => ?_⟩
    rw [List.append_nil]
    rcases List.eq_nil_or_concat a with rfl | ⟨b, c, rfl⟩
    · rfl
    · rw [List.concat_eq_append] at ha ⊢
      obtain ⟨_, _, h1, h2, h3⟩ := tyN_sign (ha c (by simp))
      rw [kOf_snoc, if_neg h1, if_neg h2, if_neg h3]
  · rcases h with ⟨rfl, rfl⟩ | ⟨rfl, rfl⟩ | ⟨rfl, rfl⟩
    all_goals exact ⟨by simp, fun a _ => by rw [kOf_snoc]; simp⟩
/-- Where the signs cut a type off, the text begins with it. -/
theorem leafC_pre {l t y left right : List UInt8} (h1 : cutC 41 l = some (t, y)) (h2 : cutC 61 t = some (left, right)) (ht : typL (kOf left).2 = true) : typPre l = (kOf left).2 ∧ afterA (l.drop (kOf left).2.length) ≠ none := by
  obtain ⟨e1, _⟩ := cutC_some h1
  obtain ⟨e2, _⟩ := cutC_some h2
  obtain ⟨s, e3, hk⟩ := kOf_spec left
  obtain ⟨b, hb⟩ : ∃ b, (kOf left).2 = b := ⟨_, rfl⟩
  obtain ⟨k, hkk⟩ : ∃ k, (kOf left).1 = k := ⟨_, rfl⟩
  rw [hb] at e3 ht ⊢
  rw [hkk] at hk
  have el : l = b ++ (s ++ 61 :: (right ++ 41 :: y)) := by rw [e1, e2, e3]; simp
  rw [el]
  refine ⟨typPre_of ht fun c r e => ?_, ?_⟩
  · rcases hk with ⟨rfl, _⟩ | ⟨d, rfl, hd⟩
    · simp at e; rw [← e.1]; decide
    · simp at e; rw [← e.1]; rcases hd with ⟨rfl, _⟩ | ⟨rfl, _⟩ | ⟨rfl, _⟩ <;> decide
  · rw [List.drop_left]
    rcases hk with ⟨rfl, _⟩ | ⟨d, rfl, hd⟩
    · simp [afterA]
    · rcases hd with ⟨rfl, _⟩ | ⟨rfl, _⟩ | ⟨rfl, _⟩ <;> simp [afterA]
theorem leafC_eq (l : List UInt8) : leafC l = leafL l := by
  unfold leafC leafL
  have hs := typPre_split l
  by_cases hne : typPre l = []
  · rw [if_pos hne]
    cases h1 : cutC 41 l with
    | none => rfl
    | some p =>
      obtain ⟨t, y⟩ := p
      simp only
      cases h2 : cutC 61 t with
      | none => rfl
      | some q =>
        obtain ⟨left, right⟩ := q
        simp only
        rw [if_neg]
        intro ht
        have := (leafC_pre h1 h2 ht).1
        rw [hne] at this
        rw [← this] at ht; cases ht
  · rw [if_neg hne]
    have hty := typPre_typ hne
    have hall := typPre_all l
    obtain ⟨a, hta⟩ : ∃ a, typPre l = a := ⟨_, rfl⟩
    rw [hta] at hs hne hty hall ⊢
    cases ha : afterA (l.drop a.length) with
    | none =>
      simp only
      cases h1 : cutC 41 l with
      | none => rfl
      | some p =>
        obtain ⟨t, y⟩ := p
        simp only
        cases h2 : cutC 61 t with
        | none => rfl
        | some q =>
          obtain ⟨left, right⟩ := q
          simp only
          rw [if_neg]
          intro ht
          obtain ⟨e1, e2⟩ := leafC_pre h1 h2 ht
          rw [← e1, hta] at e2
          exact e2 ha
    | some p =>
      obtain ⟨k, x⟩ := p
      simp only
      obtain ⟨s, e1, hk⟩ := afterA_some ha
      obtain ⟨hsf, hko⟩ := sign_facts hk
      have el : l = (a ++ s) ++ 61 :: x := by rw [List.append_assoc, ← e1]; exact hs
      have h41 : ∀ c ∈ a ++ s, c ≠ 41 ∧ c ≠ 61 := fun c hc => by
        rcases List.mem_append.1 hc with hc | hc
        · have := tyN_sign (hall c hc); exact ⟨this.1, this.2.1⟩
        · exact hsf c hc
      cases hx : cutC 41 x with
      | none =>
        rw [valP_no x (cutC_none hx)]
        have : cutC 41 l = none := by
          cases h1 : cutC 41 l with
          | none => rfl
          | some p =>
            exfalso
            obtain ⟨t, y⟩ := p
            obtain ⟨e2, _⟩ := cutC_some h1
            have hm : (41 : UInt8) ∈ l := by rw [e2]; simp
            rw [el] at hm
            rcases List.mem_append.1 hm with hm | hm
            · exact (h41 41 hm).1 rfl
            · rcases List.mem_cons.1 hm with hm | hm
              · exact absurd hm (by decide)
              · exact cutC_none hx 41 hm rfl
        rw [this]
      | some p =>
        obtain ⟨r, y⟩ := p
        obtain ⟨ex, hr⟩ := cutC_some hx
        have e3 : l = ((a ++ s) ++ 61 :: r) ++ 41 :: y := by rw [el, ex]; simp
        have e4 : cutC 41 l = some ((a ++ s) ++ 61 :: r, y) := by
          rw [e3]
          refine cutC_at fun c hc => ?_
          rcases List.mem_append.1 hc with hc | hc
          · exact (h41 c hc).1
          · rcases List.mem_cons.1 hc with rfl | hc
            · decide
            · exact hr c hc
        rw [e4]
        simp only
        rw [cutC_at (fun c hc => (h41 c hc).2)]
        simp only
        rw [hko a hall, if_pos hty, ex, valP_eq r.length r y (Nat.le_refl _) hr]
        cases readAllF (splitF 42 r) <;> rfl
end Go.Proofs.YtnlbhmjgeedgpaaDoor.Mt
