/-
  A name's text is read as the name; a key is its own key. Plain lists alone: nothing of the program stands here.
-/
import Derived.Test.YtfogcgegllhmmaaGreatDoorDnMath
import Derived.Test.YtfogcgegllhmmaaGreatDoorPrepEq
namespace Go.Proofs.YtfogcgegllhmmaaGreatDoor.Mt

theorem u8_cases (c : UInt8) (n : Nat) (hn : n < 256) : c = UInt8.ofNat n ↔ c.toNat = n := by
  constructor
  · rintro rfl; simp [UInt8.toNat_ofNat']; omega
  · intro h; exact u8_ext (by rw [h]; simp [UInt8.toNat_ofNat']; omega)

theorem guard_spec {c : UInt8} {f l : Bool} (h : guardN c.toNat f l = true) (h0 : c ≠ 0) : specN c.toNat = true := by
  have h0' : c.toNat ≠ 0 := fun e => h0 (u8_ext e)
  simp only [guardN, specN, Bool.or_eq_true, Bool.and_eq_true, decide_eq_true_eq] at h ⊢
  omega
theorem not_guard {c : UInt8} {f l : Bool} (h : guardN c.toNat f l = false) : c ≠ 92 ∧ c ≠ 43 ∧ c ≠ 44 ∧ c ≠ 0 := by
  simp only [guardN, Bool.or_eq_false_iff, decide_eq_false_iff_not] at h
  have h1 := h.1.1
  refine ⟨?_, ?_, ?_, ?_⟩ <;> (rintro rfl; exact h1 (by decide))
/-- What a written value begins with is no end. -/
theorem wr_ends (f : Bool) (c : UInt8) (r rest : List UInt8) : endsL (wrF f (c :: r) ++ rest) = false := by
  simp only [wrF]
  by_cases h0 : c = 0
  · rw [if_pos h0]; simp [endsL]
  · rw [if_neg h0]
    by_cases hg : guardN c.toNat f r.isEmpty = true
    · rw [if_pos hg]; simp [endsL]
    · rw [if_neg hg]
      have := not_guard (by simpa using hg)
      simp [endsL, this.2.1, this.2.2.1]
theorem wr_ends' (r rest : List UInt8) (h : endsL rest = true) : endsL (wrF false r ++ rest) = r.isEmpty := by
  cases r with
  | nil => simpa [wrF] using h
  | cons c r => rw [wr_ends]; rfl
theorem valF_step {k : Nat} {o l : List UInt8} {c : UInt8} {n : Nat} (he : endsL l = false) (hb : byteL l = some (c, n)) (hg : (decide (n = 1) && guardN c.toNat o.isEmpty (endsL (l.drop n))) = false) : valF (k + 1) o l = valF k (o ++ [c]) (l.drop n) := by
  simp [valF, he, hb, hg]
theorem val_wr (rest : List UInt8) (hr : endsL rest = true) : ∀ (v o : List UInt8) (k : Nat), v.length < k → valF k o (wrF o.isEmpty v ++ rest) = some (o ++ v, rest)
  | _, _, 0, h => by omega
  | [], o, k + 1, _ => by simp [wrF, valF, hr]
  | c :: r, o, k + 1, hk => by
    have ih := val_wr rest hr r (o ++ [c]) k (by simp at hk; omega)
    have he : (o ++ [c]).isEmpty = false := by simp
    rw [he] at ih
    have hne := wr_ends o.isEmpty c r rest
    by_cases h0 : c = 0
    · subst h0
      have hW : wrF o.isEmpty (0 :: r) = [92, 48, 48] ++ wrF false r := by simp [wrF]
      rw [hW] at hne ⊢
      have hb : byteL ([92, 48, 48] ++ wrF false r ++ rest) = some (0, 3) := by
        simp [byteL, specN, hv]
      have e : ([92, 48, 48] ++ wrF false r ++ rest).drop 3 = wrF false r ++ rest := by simp
      rw [valF_step hne hb (by simp), e, ih]; simp
    · by_cases hg : guardN c.toNat o.isEmpty r.isEmpty = true
      · have hW : wrF o.isEmpty (c :: r) = [92, c] ++ wrF false r := by simp only [wrF]; rw [if_neg h0, if_pos hg]
        rw [hW] at hne ⊢
        have hs := guard_spec hg h0
        have hb : byteL ([92, c] ++ wrF false r ++ rest) = some (c, 2) := by
          simp [byteL, hs]
        have e : ([92, c] ++ wrF false r ++ rest).drop 2 = wrF false r ++ rest := by simp
        rw [valF_step hne hb (by simp), e, ih]; simp
      · have hW : wrF o.isEmpty (c :: r) = [c] ++ wrF false r := by simp only [wrF]; rw [if_neg h0, if_neg hg]
        rw [hW] at hne ⊢
        have hg : guardN c.toNat o.isEmpty r.isEmpty = false := by simpa using hg
        have hn := not_guard hg
        have hb : byteL ([c] ++ wrF false r ++ rest) = some (c, 1) := by
          simp [byteL, hn.1]
        have e : ([c] ++ wrF false r ++ rest).drop 1 = wrF false r ++ rest := by simp
        rw [valF_step hne hb (by rw [e, wr_ends' r rest hr, hg]; rfl), e, ih]; simp
theorem wr_len (f : Bool) : ∀ v : List UInt8, v.length ≤ (wrF f v).length
  | [] => by simp
  | c :: r => by
    have := wr_len false r
    simp only [wrF, List.length_append, List.length_cons]
    split
    · simp; omega
    · split <;> simp <;> omega
theorem valL_wr (v rest : List UInt8) (hr : endsL rest = true) : valL (wrL v ++ rest) = some (v, rest) := by
  have := val_wr rest hr v [] ((wrL v ++ rest).length + 1) (by have := wr_len true v; unfold wrL; rw [List.length_append]; omega)
  simpa [valL, wrL] using this

theorem typ_no_eq {t : List UInt8} (h : typL t = true) : ∀ c ∈ t, c ≠ 61 := by
  match t with
  | [] => simp
  | x :: r =>
    simp only [typL, Bool.and_eq_true, List.all_eq_true] at h
    intro c hc
    rintro rfl
    rcases List.mem_cons.1 hc with rfl | hc
    · have := h.1.2; simp [letN] at this
    · have := h.2 _ hc; simp [tyN, letN, digN] at this
theorem cut_typ : ∀ (t : List UInt8) (x : List UInt8), (∀ c ∈ t, c ≠ 61) → cutE (t ++ 61 :: x) = some (t, x)
  | [], x, _ => by simp [cutE]
  | c :: r, x, h => by
    have h1 := h c (by simp)
    have := cut_typ r x (fun d hd => h d (List.mem_cons_of_mem _ hd))
    simp [cutE, h1, this]
/-- An RDN that can be printed: types that differ. -/
def VR (r : List Av) : Prop := r ≠ [] ∧ r.length ≤ 8 ∧ (∀ a ∈ r, typL a.1 = true) ∧ r.Pairwise (fun a b => foldL a.1 ≠ foldL b.1)
theorem inter_cons2 (sep a b : List UInt8) (r : List (List UInt8)) : sep.intercalate (a :: b :: r) = a ++ sep ++ sep.intercalate (b :: r) := by simp [List.intercalate, List.intersperse]
theorem has_no {acc : List Av} {a : Av} {t : List Av} (h : (acc ++ a :: t).Pairwise (fun a b => foldL a.1 ≠ foldL b.1)) : hasL acc a.1 = false := by
  unfold hasL
  rw [List.any_eq_false]
  intro x hx
  have := (List.pairwise_append.1 h).2.2 x hx a (by simp)
  simpa using this
theorem rdn_spelt (rest : List UInt8) (hr : endsL rest = true) (hp : rest.head? ≠ some 43) : ∀ (r : List Av) (acc : List Av) (k : Nat), r ≠ [] → r.length ≤ k → (∀ a ∈ r, typL a.1 = true) → (acc ++ r).Pairwise (fun a b => foldL a.1 ≠ foldL b.1) →
    rdnF k acc ([43].intercalate (r.map avL) ++ rest) = .ok (acc ++ r, rest)
  | [], _, _, h, _, _, _ => absurd rfl h
  | a :: r, acc, 0, _, hk, _, _ => by simp at hk
  | [a], acc, k + 1, _, hk, ht, hw => by
    have hta := ht a (by simp)
    have e : [43].intercalate (([a] : List Av).map avL) ++ rest = a.1 ++ 61 :: (wrL a.2 ++ rest) := by simp [List.intercalate, avL]
    rw [e]
    simp only [rdnF, cut_typ a.1 _ (typ_no_eq hta), hta, has_no hw, valL_wr a.2 rest hr, Bool.not_true, Bool.false_eq_true, if_false]
    split
    · rename_i h; simp at hp
    · rfl
  | a :: b :: r, acc, k + 1, _, hk, ht, hw => by
    have hta := ht a (by simp)
    have e : [43].intercalate ((a :: b :: r).map avL) ++ rest = a.1 ++ 61 :: (wrL a.2 ++ 43 :: ([43].intercalate ((b :: r).map avL) ++ rest)) := by
      simp only [List.map_cons, inter_cons2]; simp [avL]
    rw [e]
    simp only [rdnF, cut_typ a.1 _ (typ_no_eq hta), hta, has_no hw, valL_wr a.2 (43 :: _) (by simp [endsL]), Bool.not_true, Bool.false_eq_true, if_false]
    have ih := rdn_spelt rest hr hp (b :: r) (acc ++ [a]) k (by simp) (by simp at hk ⊢; omega) (fun x hx => ht x (List.mem_cons_of_mem _ hx)) (by simpa using hw)
    have e2 : acc ++ [(a.1, a.2)] = acc ++ [a] := rfl
    rw [e2, ih]; simp
theorem dn_spelt : ∀ (d : List (List Av)) (acc : List (List Av)) (k : Nat), d ≠ [] → d.length ≤ k → (∀ r ∈ d, VR r) → dnF k acc (textL speltL d) = .ok (acc ++ d)
  | [], _, _, h, _, _ => absurd rfl h
  | r :: d, acc, 0, _, hk, _ => by simp at hk
  | [r], acc, k + 1, _, hk, hv => by
    have hr := hv r (by simp)
    have e : textL speltL [r] = [43].intercalate (r.map avL) ++ [] := by simp [textL, List.intercalate, speltL]
    rw [e]
    simp only [dnF, rdn_spelt [] rfl (by simp) r [] 8 hr.1 hr.2.1 hr.2.2.1 (by simpa using hr.2.2.2)]
    rfl
  | r :: q :: d, acc, k + 1, _, hk, hv => by
    have hr := hv r (by simp)
    have e : textL speltL (r :: q :: d) = [43].intercalate (r.map avL) ++ 44 :: textL speltL (q :: d) := by
      simp only [textL, List.map_cons, inter_cons2]; simp [speltL]
    rw [e]
    simp only [dnF, rdn_spelt (44 :: textL speltL (q :: d)) (by simp [endsL]) (by simp) r [] 8 hr.1 hr.2.1 hr.2.2.1 (by simpa using hr.2.2.2)]
    have ih := dn_spelt (q :: d) (acc ++ [r]) k (by simp) (by simp at hk ⊢; omega) (fun x hx => hv x (List.mem_cons_of_mem _ hx))
    simp only [List.nil_append]
    rw [ih]; simp

theorem askA_pair (r : List Av) : ∀ (t pre : List Av), pre ++ t = r → askA r pre.length t = 0 → pre.Pairwise (fun a b => foldL a.1 ≠ foldL b.1) → r.Pairwise (fun a b => foldL a.1 ≠ foldL b.1)
  | [], pre, e, _, hp => by rw [← e]; simpa using hp
  | a :: t, pre, e, h, hp => by
    simp only [askA] at h
    split at h
    · cases h
    split at h
    · cases h
    split at h
    · cases h
    rename_i h1 h2 h3
    have htk : r.take pre.length = pre := by rw [← e]; simp
    rw [htk] at h3
    have h3 : hasL pre a.1 = false := by simpa using h3
    have hp2 : (pre ++ [a]).Pairwise (fun a b => foldL a.1 ≠ foldL b.1) := by
      rw [List.pairwise_append]
      refine ⟨hp, by simp, fun x hx y hy => ?_⟩
      rw [List.mem_singleton] at hy; subst hy
      unfold hasL at h3; rw [List.any_eq_false] at h3
      simpa using h3 x hx
    exact askA_pair r t (pre ++ [a]) (by simp [e]) (by rw [List.length_append]; exact h) hp2
theorem askA_typ (r : List Av) : ∀ (t : List Av) (i : Nat), i ≤ 8 → askA r i t = 0 → i + t.length ≤ 8 ∧ ∀ a ∈ t, typL a.1 = true
  | [], i, hi, _ => ⟨by simpa using hi, by simp⟩
  | a :: t, i, hi, h => by
    simp only [askA] at h
    split at h
    · cases h
    split at h
    · cases h
    split at h
    · cases h
    rename_i h1 h2 _
    have := askA_typ r t (i + 1) (by omega) h
    refine ⟨by simp; omega, fun b hb => ?_⟩
    rcases List.mem_cons.1 hb with rfl | hb
    · simpa using h2
    · exact this.2 b hb
theorem ask_VR {r : List Av} (h : askR r = 0) : VR r := by
  unfold askR at h
  split at h
  · cases h
  rename_i h0
  have h1 := askA_typ r r 0 (by omega) h
  exact ⟨h0, by omega, h1.2, askA_pair r r [] rfl h (by simp)⟩
theorem VR_ask {r : List Av} (h : VR r) : askR r = 0 := by
  unfold askR
  rw [if_neg h.1]
  have key : ∀ (t pre : List Av), pre ++ t = r → askA r pre.length t = 0 := by
    intro t
    induction t with
    | nil => intro pre _; simp [askA]
    | cons a t ih =>
      intro pre e
      have hlen : pre.length + 1 ≤ r.length := by rw [← e]; simp
      have hta : typL a.1 = true := h.2.2.1 a (by rw [← e]; simp)
      have htk : r.take pre.length = pre := by rw [← e]; simp
      have hh : hasL pre a.1 = false := has_no (t := t) (by rw [e]; exact h.2.2.2)
      have h8 := h.2.1
      simp only [askA, htk, hta, hh]
      rw [if_neg (by omega)]
      have := ih (pre ++ [a]) (by simp [e])
      rw [List.length_append] at this
      simpa using this
  exact key r [] rfl
theorem askF_VR : ∀ (d : List (List Av)) (i : Nat), i ≤ 32 → askF i d = 0 → i + d.length ≤ 32 ∧ ∀ r ∈ d, VR r
  | [], i, hi, _ => ⟨by simpa using hi, by simp⟩
  | r :: t, i, hi, h => by
    simp only [askF] at h
    split at h
    · cases h
    split at h
    · rename_i h1; exact absurd h h1
    rename_i h1 h2
    have := askF_VR t (i + 1) (by omega) h
    refine ⟨by simp; omega, fun b hb => ?_⟩
    rcases List.mem_cons.1 hb with rfl | hb
    · exact ask_VR (by simpa using h2)
    · exact this.2 b hb
theorem VR_askF : ∀ (d : List (List Av)) (i : Nat), i + d.length ≤ 32 → (∀ r ∈ d, VR r) → askF i d = 0
  | [], _, _, _ => by simp [askF]
  | r :: t, i, hi, h => by
    simp only [List.length_cons] at hi
    have h1 := VR_ask (h r (by simp))
    have h2 := VR_askF t (i + 1) (by omega) (fun x hx => h x (List.mem_cons_of_mem _ hx))
    simp only [askF, h1]
    rw [if_neg (by omega)]; simpa using h2
theorem printD_good {d : List (List Av)} {t : List UInt8} (h : printD d = .ok t) : d.length ≤ 32 ∧ (∀ r ∈ d, VR r) ∧ t = textL speltL d ∧ t.length ≤ 4096 := by
  unfold printD at h
  split at h
  · cases h
  split at h
  · cases h
  cases h
  rename_i h1 h2
  have h1 : askD d = 0 := by simpa using h1
  unfold askD at h1
  split at h1
  · rename_i h3; exact absurd h1 h3
  rename_i h3
  have := askF_VR d 0 (by omega) (by simpa using h3)
  exact ⟨by omega, this.2, rfl, by omega⟩
theorem text_ne {d : List (List Av)} (h : d ≠ []) (hv : ∀ r ∈ d, VR r) : textL speltL d ≠ [] := by
  match d, h with
  | r :: d, _ =>
    have hr := hv r (by simp)
    match r, hr.1 with
    | a :: r, _ =>
      intro e
      have hl := congrArg List.length e
      cases d with
      | nil =>
        cases r with
        | nil => simp [textL, List.intercalate, speltL, avL] at hl
        | cons b r => simp only [textL, speltL, List.map_cons, List.map_nil, inter_cons2] at hl; simp [List.intercalate, avL] at hl
      | cons q d => simp only [textL, List.map_cons, inter_cons2] at hl; simp at hl
/-- A name's text is read as the name. -/
theorem parse_text {d : List (List Av)} (h32 : d.length ≤ 32) (hv : ∀ r ∈ d, VR r) (hl : (textL speltL d).length ≤ 4096) : dnL (textL speltL d) = .ok d := by
  unfold dnL
  rw [if_neg (by omega)]
  by_cases h0 : d = []
  · subst h0; simp [textL, List.intercalate]
  · rw [if_neg (text_ne h0 hv), dn_spelt d [] 32 h0 h32 hv]; simp
theorem parse_print {d : List (List Av)} {t : List UInt8} (h : printD d = .ok t) : dnL t = .ok d := by
  obtain ⟨h1, h2, rfl, h4⟩ := printD_good h
  exact parse_text h1 h2 h4
end Go.Proofs.YtfogcgegllhmmaaGreatDoor.Mt
