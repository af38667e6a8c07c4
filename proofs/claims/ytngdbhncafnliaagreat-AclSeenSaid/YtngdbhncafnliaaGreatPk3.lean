/-
  Some texts of one proof, one behind the other.
-/
import Derived.Test.YtngdbhncafnliaaGreatPk2
set_option linter.unusedVariables false
set_option linter.unusedSimpArgs false

/-
  What is read can be printed, and is read again; letters' size makes no difference to a key. Plain lists alone: nothing of the program stands here.
-/
namespace Go.Proofs.YtngdbhncafnliaaGreat.Mt

/-! ### what is read is sound -/
theorem byte_size9 {l : List UInt8} {c : UInt8} {n : Nat} (h : byteL l = some (c, n)) : 1 ≤ n ∧ n ≤ l.length := by
  match l with
  | [] => simp [byteL] at h
  | c :: r =>
    simp only [byteL] at h
    split at h
    · cases h; simp
    · match r with
      | [] => simp at h
      | d :: r2 =>
        simp only at h
        split at h
        · cases h; simp
        · match r2 with
          | [] => simp at h
          | e :: r3 =>
            simp only at h
            split at h
            · cases h; simp
            · cases h
theorem cut_len9 : ∀ {l a b : List UInt8}, cutE l = some (a, b) → a.length + b.length + 1 = l.length
  | [], a, b, h => by simp [cutE] at h
  | c :: r, a, b, h => by
    simp only [cutE] at h
    split at h
    · cases h; simp
    · cases hr : cutE r with
      | none => rw [hr] at h; cases h
      | some p =>
        obtain ⟨x, y⟩ := p
        rw [hr] at h; cases h
        have := cut_len9 hr
        simp; omega
theorem valF_len9 : ∀ {k : Nat} {v l a b : List UInt8}, valF k v l = some (a, b) → a.length + b.length ≤ v.length + l.length ∧ b.length ≤ l.length
  | 0, v, l, a, b, h => by simp [valF] at h
  | k + 1, v, l, a, b, h => by
    simp only [valF] at h
    split at h
    · cases h; exact ⟨Nat.le_refl _, Nat.le_refl _⟩
    · cases hb : byteL l with
      | none => rw [hb] at h; cases h
      | some p =>
        obtain ⟨c, n⟩ := p
        have hn := byte_size9 hb
        rw [hb] at h
        simp only at h
        split at h
        · cases h
        · have := valF_len9 h
          simp only [List.length_drop, List.length_append, List.length_singleton] at this
          omega
theorem val_len9 {l a b : List UInt8} (h : valL l = some (a, b)) : a.length ≤ l.length ∧ b.length ≤ l.length := by
  have := valF_len9 h
  simp only [List.length_nil] at this
  omega

theorem rdn_sound : ∀ {k : Nat} {acc : List Av} {l : List UInt8} {r : List Av} {rest : List UInt8}, rdnF k acc l = .ok (r, rest) → acc.length + k ≤ 8 → (∀ a ∈ acc, typL a.1 = true ∧ a.2.length ≤ 4096) → l.length ≤ 4096 → acc.Pairwise (fun a b => foldL a.1 ≠ foldL b.1) →
    VR r ∧ (∀ a ∈ r, a.2.length ≤ 4096) ∧ rest.length ≤ l.length
  | 0, acc, l, r, rest, h, _, _, _, _ => by simp [rdnF] at h
  | k + 1, acc, l, r, rest, h, hk, ha, hl, hp => by
    simp only [rdnF] at h
    cases hc : cutE l with
    | none => rw [hc] at h; cases h
    | some p =>
      obtain ⟨t, r1⟩ := p
      rw [hc] at h
      simp only at h
      split at h
      · cases h
      rename_i ht
      split at h
      · cases h
      rename_i hh
      cases hv : valL r1 with
      | none => rw [hv] at h; cases h
      | some p =>
        obtain ⟨x, r2⟩ := p
        rw [hv] at h
        simp only at h
        have h1 : t.length + r1.length + 1 = l.length := cut_len9 hc
        have h2 := val_len9 hv
        have hty : typL t = true := by simpa using ht
        have hno : hasL acc t = false := by simpa using hh
        have ha2 : ∀ a ∈ acc ++ [(t, x)], typL a.1 = true ∧ a.2.length ≤ 4096 := by
          intro a hm
          rw [List.mem_append, List.mem_singleton] at hm
          rcases hm with hm | rfl
          · exact ha a hm
          · exact ⟨hty, by show x.length ≤ _; omega⟩
        have hp2 : (acc ++ [(t, x)]).Pairwise (fun a b => foldL a.1 ≠ foldL b.1) := by
          rw [List.pairwise_append]
          refine ⟨hp, by simp, fun y hy z hz => ?_⟩
          rw [List.mem_singleton] at hz; subst hz
          unfold hasL at hno; rw [List.any_eq_false] at hno
          simpa using hno y hy
        split at h
        · rename_i l2
          have hk2 : (acc ++ [(t, x)]).length + k ≤ 8 := by simp; omega
          have h3 := rdn_sound h hk2 ha2 (by simp at h2; omega) hp2
          exact ⟨h3.1, h3.2.1, by simp at h2; omega⟩
        · cases h
          exact ⟨⟨by simp, by simp; omega, fun a hm => (ha2 a hm).1, hp2⟩, fun a hm => (ha2 a hm).2, by omega⟩
theorem dn_sound : ∀ {k : Nat} {acc : List (List Av)} {l : List UInt8} {d : List (List Av)}, dnF k acc l = .ok d → acc.length + k ≤ 32 → (∀ r ∈ acc, VR r ∧ ∀ a ∈ r, a.2.length ≤ 4096) → l.length ≤ 4096 →
    d.length ≤ 32 ∧ ∀ r ∈ d, VR r ∧ ∀ a ∈ r, a.2.length ≤ 4096
  | 0, acc, l, d, h, _, _, _ => by simp [dnF] at h
  | k + 1, acc, l, d, h, hk, ha, hl => by
    simp only [dnF] at h
    cases hr : rdnF 8 [] l with
    | error e => rw [hr] at h; cases h
    | ok p =>
      obtain ⟨r, rest⟩ := p
      rw [hr] at h
      simp only at h
      have h1 := rdn_sound hr (by simp) (by simp) hl (by simp)
      have ha2 : ∀ q ∈ acc ++ [r], VR q ∧ ∀ a ∈ q, a.2.length ≤ 4096 := by
        intro q hq
        rw [List.mem_append, List.mem_singleton] at hq
        rcases hq with hq | rfl
        · exact ha q hq
        · exact ⟨h1.1, h1.2.1⟩
      split at h
      · cases h; exact ⟨by simp; omega, ha2⟩
      · rename_i y l2
        exact dn_sound h (by simp; omega) ha2 (by have := h1.2.2; simp at this; omega)
/-- A name that is read is one. -/
theorem read_ask {l : List UInt8} {d : List (List Av)} (h : dnL l = .ok d) : askD d = 0 ∧ d.length ≤ 32 ∧ (∀ r ∈ d, VR r) ∧ d.any longR = false := by
  unfold dnL at h
  split at h
  · cases h
  rename_i hl
  have hs : d.length ≤ 32 ∧ ∀ r ∈ d, VR r ∧ ∀ a ∈ r, a.2.length ≤ 4096 := by
    split at h
    · cases h; exact ⟨by simp, by simp⟩
    · exact dn_sound h (by simp) (by simp) (by omega)
  have hlong : d.any longR = false := by
    rw [List.any_eq_false]
    intro r hr
    simp only [longR, List.any_eq_true, not_exists, not_and, decide_eq_true_eq]
    intro a ha
    have := (hs.2 r hr).2 a ha; omega
  refine ⟨?_, hs.1, fun r hr => (hs.2 r hr).1, hlong⟩
  unfold askD
  rw [VR_askF d 0 (by omega) (fun r hr => (hs.2 r hr).1), hlong]; rfl

/-! ### letters' size -/
/-- Two lists, element by element. -/
inductive F2 {α β : Type} (R : α → β → Prop) : List α → List β → Prop
  | nil : F2 R [] []
  | cons {a : α} {b : β} {l : List α} {l' : List β} : R a b → F2 R l l' → F2 R (a :: l) (b :: l')
theorem F2.length_eq {α β : Type} {R : α → β → Prop} {l : List α} {l' : List β} (h : F2 R l l') : l.length = l'.length := by
  induction h with
  | nil => rfl
  | cons _ _ ih => simp [ih]
theorem F2.append {α β : Type} {R : α → β → Prop} {a : List α} {a' : List β} {b : List α} {b' : List β} (h : F2 R a a') (h2 : F2 R b b') : F2 R (a ++ b) (a' ++ b') := by
  induction h with
  | nil => exact h2
  | cons h1 _ ih => exact .cons h1 ih
def upN (n : Nat) : Nat := if 97 ≤ n ∧ n ≤ 122 then n - 32 else n
def up (c : UInt8) : UInt8 := UInt8.ofNat (upN c.toNat)
theorem up_toNat (c : UInt8) : (up c).toNat = upN c.toNat := by
  have := c.toNat_lt
  unfold up upN; simp [UInt8.toNat_ofNat']; split <;> omega
theorem sm_up (c : UInt8) : sm (up c) = sm c := by
  apply u8_ext; rw [sm_toNat, sm_toNat, up_toNat]; unfold smN upN
  by_cases h : 97 ≤ c.toNat ∧ c.toNat ≤ 122
  · rw [if_pos h, if_pos (by omega), if_neg (by omega)]; omega
  · rw [if_neg h]
theorem up_eq (c : UInt8) (n : Nat) (hn : n < 256) (h1 : ¬ (65 ≤ n ∧ n ≤ 90)) (h2 : ¬ (97 ≤ n ∧ n ≤ 122)) : (up c).toNat = n ↔ c.toNat = n := by
  rw [up_toNat]; unfold upN; split <;> omega
theorem up_spec : ∀ n : Fin 256, specN (upN n) = specN n := by decide +kernel
theorem up_spec_id : ∀ n : Fin 256, specN n = true → upN n = n := by decide +kernel
theorem up_guard : ∀ n : Fin 256, ∀ f l : Bool, guardN (upN n) f l = guardN n f l := by decide +kernel
theorem up_hv : ∀ n : Fin 256, hv (upN n) = hv n := by decide +kernel
theorem up_ty : ∀ n : Fin 256, tyN (upN n) = tyN n ∧ letN (upN n) = letN n := by decide +kernel
/-- The same byte, or its capital letter. -/
def Rb (c c' : UInt8) : Prop := c' = c ∨ c' = up c
theorem Rb.sm {c c' : UInt8} (h : Rb c c') : sm c' = sm c := by rcases h with rfl | rfl; rfl; exact sm_up c
theorem Rb.guard {c c' : UInt8} (h : Rb c c') (f l : Bool) : guardN c'.toNat f l = guardN c.toNat f l := by
  rcases h with rfl | rfl
  · rfl
  · rw [up_toNat]; exact up_guard ⟨c.toNat, c.toNat_lt⟩ f l
theorem Rb.zero {c c' : UInt8} (h : Rb c c') : c' = 0 ↔ c = 0 := by
  rcases h with rfl | rfl
  · rfl
  · rw [zero_iff, zero_iff]; exact up_eq c 0 (by omega) (by omega) (by omega)
abbrev Rl := F2 Rb
theorem Rl.len {v v' : List UInt8} (h : Rl v v') : v'.length = v.length := h.length_eq.symm
theorem Rl.empty {v v' : List UInt8} (h : Rl v v') : v'.isEmpty = v.isEmpty := by cases h <;> rfl
theorem Rl.smap {v v' : List UInt8} (h : Rl v v') : v'.map sm = v.map sm := by
  induction h with
  | nil => rfl
  | cons h1 _ ih => simp [h1.sm, ih]
theorem Rl.wr {v v' : List UInt8} (h : Rl v v') : ∀ f, (wrF f v').length = (wrF f v).length := by
  induction h with
  | nil => intro f; rfl
  | @cons a b l l' h1 h2 ih =>
    intro f
    have h2' : l'.isEmpty = l.isEmpty := Rl.empty h2
    simp only [wrF, List.length_append, ih false, h1.guard, h2']
    by_cases h0 : a = 0
    · rw [if_pos h0, if_pos (h1.zero.2 h0)]
    · rw [if_neg h0, if_neg (fun e => h0 (h1.zero.1 e))]; split <;> rfl
theorem ends_up (l : List UInt8) : endsL (l.map up) = endsL l := by
  cases l with
  | nil => rfl
  | cons c r =>
    simp only [List.map_cons, endsL]
    have e1 : up c = 44 ↔ c = 44 := by
      constructor
      · intro h; exact u8_ext ((up_eq c 44 (by omega) (by omega) (by omega)).1 (by rw [h]; rfl))
      · rintro rfl; rfl
    have e2 : up c = 43 ↔ c = 43 := by
      constructor
      · intro h; exact u8_ext ((up_eq c 43 (by omega) (by omega) (by omega)).1 (by rw [h]; rfl))
      · rintro rfl; rfl
    rw [Bool.eq_iff_iff]; simp only [decide_eq_true_eq, e1, e2]
theorem up_is (c : UInt8) (n : UInt8) (h1 : ¬ (65 ≤ n.toNat ∧ n.toNat ≤ 90)) (h2 : ¬ (97 ≤ n.toNat ∧ n.toNat ≤ 122)) : up c = n ↔ c = n := by
  constructor
  · intro h; exact u8_ext ((up_eq c n.toNat n.toNat_lt h1 h2).1 (by rw [h]))
  · intro h; exact u8_ext ((up_eq c n.toNat n.toNat_lt h1 h2).2 (by rw [h]))
theorem byte_up {l : List UInt8} {c : UInt8} {n : Nat} (h : byteL l = some (c, n)) : ∃ c', byteL (l.map up) = some (c', n) ∧ Rb c c' := by
  match l with
  | [] => simp [byteL] at h
  | x :: r =>
    have ex : up x = 92 ↔ x = 92 := up_is x 92 (by decide) (by decide)
    simp only [byteL, List.map_cons] at h ⊢
    by_cases hx : x = 92
    · rw [if_neg (by simp [hx])] at h
      rw [if_neg (by simp [ex.2 hx])]
      match r with
      | [] => simp at h
      | d :: r2 =>
        simp only [List.map_cons] at h ⊢
        have hs : specN (up d).toNat = specN d.toNat := by rw [up_toNat]; exact up_spec ⟨d.toNat, d.toNat_lt⟩
        by_cases hd : specN d.toNat = true
        · rw [if_pos hd] at h
          rw [if_pos (by rw [hs]; exact hd)]
          cases h; exact ⟨_, rfl, .inr rfl⟩
        · rw [if_neg hd] at h
          rw [if_neg (by rw [hs]; exact hd)]
          match r2 with
          | [] => simp at h
          | e :: r3 =>
            simp only [List.map_cons] at h ⊢
            have e1 : hv (up d).toNat = hv d.toNat := by rw [up_toNat]; exact up_hv ⟨d.toNat, d.toNat_lt⟩
            have e2 : hv (up e).toNat = hv e.toNat := by rw [up_toNat]; exact up_hv ⟨e.toNat, e.toNat_lt⟩
            rw [e1, e2]
            exact ⟨c, h, .inl rfl⟩
    · rw [if_pos hx] at h
      rw [if_pos (fun e => hx (ex.1 e))]
      cases h; exact ⟨_, rfl, .inr rfl⟩
theorem val_up : ∀ {k : Nat} {o o' l v rest : List UInt8}, valF k o l = some (v, rest) → Rl o o' → ∃ v', valF k o' (l.map up) = some (v', rest.map up) ∧ Rl v v'
  | 0, o, o', l, v, rest, h, _ => by simp [valF] at h
  | k + 1, o, o', l, v, rest, h, ho => by
    simp only [valF, ends_up] at h ⊢
    by_cases he : endsL l = true
    · rw [if_pos he] at h ⊢
      cases h; exact ⟨_, rfl, ho⟩
    · rw [if_neg he] at h
      rw [if_neg he]
      cases hb : byteL l with
      | none => rw [hb] at h; cases h
      | some p =>
        obtain ⟨c, n⟩ := p
        obtain ⟨c', hb', hc⟩ := byte_up hb
        rw [hb] at h
        rw [hb']
        simp only [← List.map_drop, ends_up, Rl.empty ho, hc.guard] at h ⊢
        split at h
        · cases h
        · rename_i hg
          rw [if_neg hg]
          exact val_up h (F2.append ho (.cons hc .nil))
theorem valL_up {l v rest : List UInt8} (h : valL l = some (v, rest)) : ∃ v', valL (l.map up) = some (v', rest.map up) ∧ Rl v v' := by
  unfold valL at h ⊢
  rw [List.length_map]
  exact val_up h .nil
theorem cut_up : ∀ {l a b : List UInt8}, cutE l = some (a, b) → cutE (l.map up) = some (a.map up, b.map up)
  | [], a, b, h => by simp [cutE] at h
  | c :: r, a, b, h => by
    have ec : up c = 61 ↔ c = 61 := up_is c 61 (by decide) (by decide)
    simp only [cutE, List.map_cons] at h ⊢
    by_cases hc : c = 61
    · rw [if_pos hc] at h
      rw [if_pos (ec.2 hc)]
      cases h; rfl
    · rw [if_neg hc] at h
      rw [if_neg (fun e => hc (ec.1 e))]
      cases hr : cutE r with
      | none => rw [hr] at h; cases h
      | some p =>
        obtain ⟨x, y⟩ := p
        rw [hr] at h
        rw [cut_up hr]
        cases h; rfl
theorem typ_up (t : List UInt8) : typL (t.map up) = typL t := by
  cases t with
  | nil => rfl
  | cons c r =>
    have h1 : letN (up c).toNat = letN c.toNat := by rw [up_toNat]; exact (up_ty ⟨c.toNat, c.toNat_lt⟩).2
    have h2 : ∀ x : UInt8, tyN (up x).toNat = tyN x.toNat := fun x => by rw [up_toNat]; exact (up_ty ⟨x.toNat, x.toNat_lt⟩).1
    simp only [List.map_cons, typL, List.length_map, h1, List.all_map, Function.comp_def, h2]
theorem fold_up (t : List UInt8) : foldL (t.map up) = foldL t := by
  unfold foldL; rw [List.map_map]; congr 1; funext c; exact sm_up c
/-- The same type and value but for letters' size. -/
def Ra (a a' : Av) : Prop := a'.1 = a.1.map up ∧ Rl a.2 a'.2
theorem has_up {acc acc' : List Av} (h : F2 Ra acc acc') (t : List UInt8) : hasL acc' (t.map up) = hasL acc t := by
  induction h with
  | nil => rfl
  | cons h1 _ ih =>
    unfold hasL at ih ⊢
    simp only [List.any_cons, h1.1, fold_up] at ih ⊢
    rw [ih]
theorem rdn_up : ∀ {k : Nat} {acc acc' : List Av} {l : List UInt8} {r : List Av} {rest : List UInt8}, rdnF k acc l = .ok (r, rest) → F2 Ra acc acc' → ∃ r', rdnF k acc' (l.map up) = .ok (r', rest.map up) ∧ F2 Ra r r'
  | 0, acc, acc', l, r, rest, h, _ => by simp [rdnF] at h
  | k + 1, acc, acc', l, r, rest, h, ha => by
    simp only [rdnF] at h ⊢
    cases hc : cutE l with
    | none => rw [hc] at h; cases h
    | some p =>
      obtain ⟨t, r1⟩ := p
      rw [hc] at h
      rw [cut_up hc]
      simp only [typ_up, has_up ha] at h ⊢
      split at h
      · cases h
      rename_i ht
      split at h
      · cases h
      rename_i hh
      rw [if_neg ht, if_neg hh]
      cases hv : valL r1 with
      | none => rw [hv] at h; cases h
      | some p =>
        obtain ⟨x, r2⟩ := p
        obtain ⟨x', hv', hx⟩ := valL_up hv
        rw [hv] at h
        rw [hv']
        simp only at h ⊢
        have ha2 : F2 Ra (acc ++ [(t, x)]) (acc' ++ [(t.map up, x')]) := F2.append ha (.cons ⟨rfl, hx⟩ .nil)
        match r2, h with
        | [], h => cases h; exact ⟨_, rfl, ha2⟩
        | y :: l2, h =>
          have ey : up y = 43 ↔ y = 43 := up_is y 43 (by decide) (by decide)
          by_cases hy : y = 43
          · subst hy
            have : up 43 = 43 := rfl
            simp only [List.map_cons, this] at h ⊢
            exact rdn_up h ha2
          · have hy' : up y ≠ 43 := fun e => hy (ey.1 e)
            simp only [List.map_cons] at h ⊢
            split at h
            · rename_i h2; cases h2; exact absurd rfl hy
            cases h
            split
            · rename_i h2; exact absurd (List.cons.inj h2).1 hy'
            · exact ⟨_, rfl, ha2⟩
theorem dn_up : ∀ {k : Nat} {acc acc' : List (List Av)} {l : List UInt8} {d : List (List Av)}, dnF k acc l = .ok d → F2 (F2 Ra) acc acc' → ∃ d', dnF k acc' (l.map up) = .ok d' ∧ F2 (F2 Ra) d d'
  | 0, acc, acc', l, d, h, _ => by simp [dnF] at h
  | k + 1, acc, acc', l, d, h, ha => by
    simp only [dnF] at h ⊢
    cases hr : rdnF 8 [] l with
    | error e => rw [hr] at h; cases h
    | ok p =>
      obtain ⟨r, rest⟩ := p
      obtain ⟨r', hr', hrr⟩ := rdn_up hr .nil
      rw [hr] at h
      rw [hr']
      have ha2 : F2 (F2 Ra) (acc ++ [r]) (acc' ++ [r']) := F2.append ha (.cons hrr .nil)
      match rest, h with
      | [], h => cases h; exact ⟨_, rfl, ha2⟩
      | y :: l2, h => exact dn_up h ha2
theorem Ra.plain {a a' : Av} (h : Ra a a') : plainA a' = plainA a := by
  simp only [plainA, h.1, fold_up]
  congr 1
  rw [← prep_fold a'.2, ← prep_fold a.2, h.2.smap]
theorem Ra.len {a a' : Av} (h : Ra a a') : (avL a').length = (avL a).length := by
  simp only [avL, List.length_append, h.1, List.length_map, wrL, h.2.wr]
theorem ra_norm {r r' : List Av} (h : F2 Ra r r') : normL r' = normL r := by
  have : r'.map (fun a => avL (plainA a)) = r.map (fun a => avL (plainA a)) := by
    induction h with
    | nil => rfl
    | cons h1 _ ih => simp [h1.plain, ih]
  unfold normL; rw [this]
theorem ra_len {r r' : List Av} (h : F2 Ra r r') : ([43].intercalate (speltL r')).length = ([43].intercalate (speltL r)).length := by
  rw [inter_sum [43] rfl, inter_sum [43] rfl]
  have h1 : (speltL r').map List.length = (speltL r).map List.length := by
    unfold speltL
    induction h with
    | nil => rfl
    | cons h1 _ ih => simp only [List.map_cons, h1.len, ih]
  have h2 : (speltL r').length = (speltL r).length := by simpa using congrArg List.length h1
  rw [h1, h2]
/-- The key of a text in capital letters. -/
theorem loud_key {l t : List UInt8} {d : List (List Av)} (h : dnL l = .ok d) (hp : printD d = .ok t) : keyL (l.map up) = keyD d := by
  have hd : ∃ d', dnL (l.map up) = .ok d' ∧ F2 (F2 Ra) d d' := by
    unfold dnL at h ⊢
    rw [List.length_map]
    split at h
    · cases h
    rename_i hl
    rw [if_neg hl]
    by_cases h0 : l = []
    · subst h0; rw [if_pos rfl] at h; cases h; exact ⟨[], rfl, .nil⟩
    · rw [if_neg h0] at h
      rw [if_neg (by simpa using h0)]
      exact dn_up h .nil
  obtain ⟨d', h1, h2⟩ := hd
  have h3 := read_ask h1
  have e1 : d'.map (fun r => ([43].intercalate (speltL r)).length) = d.map (fun r => ([43].intercalate (speltL r)).length) := by
    clear h1 h3 h hp
    induction h2 with
    | nil => rfl
    | cons h1 _ ih => simp only [List.map_cons, ra_len h1, ih]
  have e2 : textL normL d' = textL normL d := by
    have : d'.map (fun r => [43].intercalate (normL r)) = d.map (fun r => [43].intercalate (normL r)) := by
      clear h1 h3 h hp e1
      induction h2 with
      | nil => rfl
      | cons h1 _ ih => simp only [List.map_cons, ra_norm h1, ih]
    unfold textL; rw [this]
  have e3 : (textL speltL d').length = (textL speltL d).length := by
    unfold textL
    rw [inter_sum [44] rfl, inter_sum [44] rfl, List.map_map, List.map_map]
    have e4 : d'.length = d.length := h2.length_eq.symm
    have e5 := congrArg List.sum e1
    simp only [Function.comp_def] at e5 ⊢
    rw [List.length_map, List.length_map, e4, e5]
  obtain ⟨_, _, rfl, h4⟩ := printD_good hp
  have h5 := printD_of h3.2.1 h3.2.2.1 (by rw [e3]; exact h4) h3.2.2.2
  unfold keyL
  rw [h1]
  simp only [keyD, h5, hp, e2]
end Go.Proofs.YtngdbhncafnliaaGreat.Mt

/-
  What is read is written in no more bytes: a name that is read has a key. Plain lists alone: nothing of the program stands here.
-/
namespace Go.Proofs.YtngdbhncafnliaaGreat.Mt

theorem byte_cost {l : List UInt8} {c : UInt8} {n : Nat} (h : byteL l = some (c, n)) (f e : Bool) (hg : (decide (n = 1) && guardN c.toNat f e) = false) : (if c = 0 then [92, 48, 48] else if guardN c.toNat f e then [92, c] else [c] : List UInt8).length ≤ n := by
  have hb := byte_size9 h
  by_cases h0 : c = 0
  · rw [if_pos h0]
    have hc : c.toNat = 0 := by rw [h0]; rfl
    have hgt : guardN c.toNat f e = true := by rw [hc]; simp [guardN]
    rw [hgt, Bool.and_true, decide_eq_false_iff_not] at hg
    -- in two bytes no zero is written
    have h2 : n ≠ 2 := fun hn => by
      subst hn
      match l with
      | [] => simp [byteL] at h
      | x :: r =>
        simp only [byteL] at h
        split at h
        · cases h
        · match r with
          | [] => simp at h
          | d :: r2 =>
            simp only at h
            split at h
            · rename_i hs
              cases h
              rw [hc] at hs; exact absurd hs (by decide)
            · match r2 with
              | [] => simp at h
              | y :: r3 =>
                simp only at h
                split at h <;> cases h
    show 3 ≤ n
    omega
  · rw [if_neg h0]
    cases hgg : guardN c.toNat f e with
    | true =>
      rw [hgg, Bool.and_true, decide_eq_false_iff_not] at hg
      show 2 ≤ n
      omega
    | false => show 1 ≤ n; omega
theorem valF_wr9 : ∀ {k : Nat} {v l a b : List UInt8}, valF k v l = some (a, b) → ∃ u, a = v ++ u ∧ (wrF v.isEmpty u).length + b.length ≤ l.length ∧ u.isEmpty = endsL l
  | 0, v, l, a, b, h => by simp [valF] at h
  | k + 1, v, l, a, b, h => by
    simp only [valF] at h
    cases he : endsL l with
    | true =>
      rw [he, if_pos rfl] at h
      cases h
      exact ⟨[], by simp, by simp [wrF], rfl⟩
    | false =>
      rw [he, if_neg (by decide)] at h
      cases hb : byteL l with
      | none => rw [hb] at h; cases h
      | some p =>
        obtain ⟨c, n⟩ := p
        have hn := byte_size9 hb
        rw [hb] at h
        simp only at h
        split at h
        · cases h
        · rename_i hg
          obtain ⟨u, h1, h2, h3⟩ := valF_wr9 h
          have hg : (decide (n = 1) && guardN c.toNat v.isEmpty (endsL (l.drop n))) = false := by simpa using hg
          rw [← h3] at hg
          have hc := byte_cost hb v.isEmpty u.isEmpty hg
          refine ⟨c :: u, by rw [h1]; simp, ?_, rfl⟩
          have e : (v ++ [c]).isEmpty = false := by cases v <;> rfl
          rw [e, List.length_drop] at h2
          simp only [wrF, List.length_append]
          omega
theorem valL_cost {l a b : List UInt8} (h : valL l = some (a, b)) : (wrL a).length + b.length ≤ l.length := by
  obtain ⟨u, h1, h2, -⟩ := valF_wr9 h
  rw [List.nil_append] at h1
  subst h1
  exact h2
/-- The bytes of texts with a sign between two. -/
theorem inter_lenP (s : List UInt8) : ∀ (x : List UInt8) (l : List (List UInt8)), (s.intercalate (x :: l)).length = x.length + (l.map fun y => s.length + y.length).sum
  | x, [] => by simp
  | x, y :: l => by
    have ih := inter_lenP s y l
    have e : s.intercalate (x :: y :: l) = x ++ (s ++ s.intercalate (y :: l)) := by
      simp [List.intercalate, List.intersperse]
    rw [e, List.length_append, List.length_append, ih]
    simp only [List.map_cons, List.sum_cons]
    omega
theorem rdn_wr9 : ∀ {k : Nat} {acc : List Av} {l : List UInt8} {r : List Av} {rest : List UInt8}, rdnF k acc l = .ok (r, rest) → ∃ a u, r = acc ++ a :: u ∧ ([43].intercalate (speltL (a :: u))).length + rest.length ≤ l.length
  | 0, acc, l, r, rest, h => by simp [rdnF] at h
  | k + 1, acc, l, r, rest, h => by
    simp only [rdnF] at h
    cases hc : cutE l with
    | none => rw [hc] at h; cases h
    | some p =>
      obtain ⟨t, r1⟩ := p
      rw [hc] at h
      simp only at h
      split at h
      · cases h
      split at h
      · cases h
      cases hv : valL r1 with
      | none => rw [hv] at h; cases h
      | some p =>
        obtain ⟨x, r2⟩ := p
        rw [hv] at h
        simp only at h
        have h1 : t.length + r1.length + 1 = l.length := cut_len9 hc
        have h2 := valL_cost hv
        split at h
        · rename_i l2
          obtain ⟨a, u, h3, h4⟩ := rdn_wr9 h
          refine ⟨(t, x), a :: u, by rw [h3]; simp, ?_⟩
          unfold speltL at h4 ⊢
          simp only [List.map_cons, inter_lenP, List.sum_cons, List.length_cons, List.length_nil, avL, List.length_append] at h4 h2 ⊢
          omega
        · cases h
          refine ⟨(t, x), [], rfl, ?_⟩
          unfold speltL
          simp only [List.map_cons, List.map_nil, inter_lenP, List.sum_nil, avL, List.length_append, List.length_cons, List.length_nil]
          omega
theorem dn_wr9 : ∀ {k : Nat} {acc : List (List Av)} {l : List UInt8} {d : List (List Av)}, dnF k acc l = .ok d → ∃ r u, d = acc ++ r :: u ∧ (textL speltL (r :: u)).length ≤ l.length
  | 0, acc, l, d, h => by simp [dnF] at h
  | k + 1, acc, l, d, h => by
    simp only [dnF] at h
    cases hr : rdnF 8 [] l with
    | error e => rw [hr] at h; cases h
    | ok p =>
      obtain ⟨r, rest⟩ := p
      rw [hr] at h
      simp only at h
      obtain ⟨a, u, h1, h2⟩ := rdn_wr9 hr
      rw [List.nil_append] at h1
      rw [← h1] at h2
      split at h
      · cases h
        refine ⟨r, [], rfl, ?_⟩
        unfold textL
        simp only [List.map_cons, List.map_nil, inter_lenP, List.sum_nil]
        simp only [List.length_nil] at h2
        omega
      · rename_i y l2
        obtain ⟨r3, u3, h3, h4⟩ := dn_wr9 h
        refine ⟨r, r3 :: u3, by rw [h3]; simp, ?_⟩
        unfold textL at h4 ⊢
        simp only [List.map_cons, inter_lenP, List.sum_cons, List.length_cons, List.length_nil] at h4 h2 ⊢
        omega
/-- A name that is read can be printed. -/
theorem read_print {l : List UInt8} {d : List (List Av)} (h : dnL l = .ok d) : ∃ t, printD d = .ok t := by
  have h1 := (read_ask h).1
  have h2 : (textL speltL d).length ≤ 4096 := by
    unfold dnL at h
    split at h
    · cases h
    split at h
    · cases h; simp [textL]
    · obtain ⟨r, u, h3, h4⟩ := dn_wr9 h
      rw [List.nil_append] at h3
      rw [← h3] at h4
      omega
  refine ⟨textL speltL d, ?_⟩
  unfold printD
  rw [h1, if_neg (by simp), if_neg (by omega)]
theorem read_key {l : List UInt8} {d : List (List Av)} (h : dnL l = .ok d) : keyL l = .ok (textL normL d) ∧ keyD d = .ok (textL normL d) := by
  obtain ⟨t, ht⟩ := read_print h
  have : keyD d = .ok (textL normL d) := by unfold keyD; rw [ht]
  exact ⟨by unfold keyL; rw [h]; exact this, this⟩
end Go.Proofs.YtngdbhncafnliaaGreat.Mt
