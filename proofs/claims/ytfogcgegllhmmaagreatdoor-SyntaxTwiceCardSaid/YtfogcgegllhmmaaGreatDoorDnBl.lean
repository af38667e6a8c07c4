/-
  A key is its own key. Plain lists alone: nothing of the program stands here.
-/
import Derived.Test.YtfogcgegllhmmaaGreatDoorDnBk
namespace Go.Proofs.YtfogcgegllhmmaaGreatDoor.Mt

/-- In how many bytes a byte is written, wherever it stands. -/
def cstN (n : Nat) : Nat := if n = 0 then 3 else if n = 34 ∨ n = 43 ∨ n = 44 ∨ n = 59 ∨ n = 60 ∨ n = 62 ∨ n = 92 then 2 else 1
def bas : List UInt8 → Nat
  | [] => 0
  | c :: r => cstN c.toNat + bas r
theorem bas_append : ∀ a b : List UInt8, bas (a ++ b) = bas a + bas b
  | [], b => by simp [bas]
  | c :: r, b => by simp [bas, bas_append r b]; omega
theorem cst_sm (c : UInt8) : cstN (sm c).toNat = cstN c.toNat := by
  rw [sm_toNat]; unfold cstN smN
  by_cases h : 65 ≤ c.toNat ∧ c.toNat ≤ 90
  · rw [if_pos h, if_neg (by omega), if_neg (by omega), if_neg (by omega), if_neg (by omega)]
  · rw [if_neg h]
theorem zero_iff (c : UInt8) : c = 0 ↔ c.toNat = 0 := ⟨fun h => by rw [h]; rfl, fun h => u8_ext h⟩
theorem wr_low (f : Bool) : ∀ v : List UInt8, bas v + (if f && (v.head? == some 32 || v.head? == some 35) then 1 else 0) ≤ (wrF f v).length
  | [] => by simp [bas, wrF]
  | c :: r => by
    have ih := wr_low false r
    simp only [Bool.false_and, Bool.false_eq_true, if_false] at ih
    have e32 : (some c == some (32 : UInt8)) = decide (c.toNat = 32) := by
      rw [Bool.eq_iff_iff]; simp only [beq_iff_eq, Option.some.injEq, decide_eq_true_eq]; exact eq32 c
    have e35 : (some c == some (35 : UInt8)) = decide (c.toNat = 35) := by
      rw [Bool.eq_iff_iff]; simp only [beq_iff_eq, Option.some.injEq, decide_eq_true_eq]
      exact ⟨fun h => by rw [h]; rfl, fun h => u8_ext h⟩
    simp only [wrF, bas, List.head?_cons, List.length_append, e32, e35, zero_iff]
    generalize c.toNat = n
    by_cases h0 : n = 0
    · subst h0
      simp only [if_true, List.length_cons, List.length_nil, cstN]
      cases f <;> simp <;> omega
    · rw [if_neg h0]
      by_cases hg : guardN n f r.isEmpty = true
      · rw [if_pos hg]
        simp only [List.length_cons, List.length_nil]
        unfold cstN
        rw [if_neg h0]
        by_cases hs : n = 34 ∨ n = 43 ∨ n = 44 ∨ n = 59 ∨ n = 60 ∨ n = 62 ∨ n = 92
        · rw [if_pos hs]
          have h1 : decide (n = 32) = false := by simp; omega
          have h2 : decide (n = 35) = false := by simp; omega
          rw [h1, h2]; simp; omega
        · rw [if_neg hs]; split <;> omega
      · rw [if_neg hg]
        have hg : guardN n f r.isEmpty = false := by simpa using hg
        simp only [guardN, Bool.or_eq_false_iff, decide_eq_false_iff_not, Bool.and_eq_false_iff] at hg
        unfold cstN
        rw [if_neg h0, if_neg (by omega)]
        have h3 : (f && (decide (n = 32) || decide (n = 35))) = false := by
          cases f
          · rfl
          · have h1 : decide (n = 32) = false := by simp at hg ⊢; omega
            have h2 : decide (n = 35) = false := by simp at hg ⊢; omega
            rw [h1, h2]; rfl
        rw [h3]; simp; omega
theorem wr_up : ∀ (f : Bool) (v : List UInt8), (f = true → v.head? ≠ some 32) → v.getLast? ≠ some 32 → (wrF f v).length ≤ bas v + (if f && (v.head? == some 35) then 1 else 0)
  | _, [], _, _ => by simp [bas, wrF]
  | f, c :: r, hf, hl => by
    have hl2 : r.getLast? ≠ some 32 := by
      cases r with
      | nil => simp
      | cons d r => simpa [List.getLast?_cons_cons] using hl
    have ih := wr_up false r (fun h => by cases h) hl2
    simp only [Bool.false_and, Bool.false_eq_true, if_false] at ih
    have e35 : (some c == some (35 : UInt8)) = decide (c.toNat = 35) := by
      rw [Bool.eq_iff_iff]; simp only [beq_iff_eq, Option.some.injEq, decide_eq_true_eq]
      exact ⟨fun h => by rw [h]; rfl, fun h => u8_ext h⟩
    have h32 : c.toNat = 32 → f = false ∧ r.isEmpty = false := by
      intro h
      have hc : c = 32 := (eq32 c).2 h
      subst hc
      refine ⟨?_, ?_⟩
      · cases f
        · rfl
        · exact absurd rfl (hf rfl)
      · cases r with
        | nil => exact absurd rfl hl
        | cons d r => rfl
    simp only [wrF, bas, List.head?_cons, List.length_append, e35, zero_iff]
    generalize c.toNat = n at *
    by_cases h0 : n = 0
    · subst h0
      simp only [if_true, List.length_cons, List.length_nil, cstN]; omega
    · rw [if_neg h0]
      by_cases hg : guardN n f r.isEmpty = true
      · rw [if_pos hg]
        simp only [List.length_cons, List.length_nil]
        unfold cstN
        rw [if_neg h0]
        by_cases hs : n = 34 ∨ n = 43 ∨ n = 44 ∨ n = 59 ∨ n = 60 ∨ n = 62 ∨ n = 92
        · rw [if_pos hs]; omega
        · rw [if_neg hs]
          have h3 : (f && decide (n = 35)) = true := by
            simp only [guardN, Bool.or_eq_true, Bool.and_eq_true, decide_eq_true_eq] at hg
            rcases hg with (hg | ⟨hg, hx⟩) | ⟨hg, hx⟩
            · omega
            · have := h32 hg; rw [this.1, this.2] at hx; rcases hx with h | h <;> cases h
            · rw [hx, decide_eq_true hg]; rfl
          rw [h3]; simp; omega
      · rw [if_neg hg]
        have : 1 ≤ cstN n := by unfold cstN; split <;> (try split) <;> omega
        simp; omega

theorem run_bas (l : List UInt8) : bas (run l) ≤ bas l := by
  refine snoc_ind (P := fun l => bas (run l) ≤ bas l) (by simp [run]) (fun l c ih => ?_) l
  show bas (run (l ++ [c])) ≤ _
  rw [run_snoc, bas_append]; unfold step
  split
  · omega
  · rw [bas_append]; simp only [bas, cst_sm]; omega
theorem run_nil_blank (l : List UInt8) : run l = [] → ∀ c ∈ l, c = 32 := by
  refine snoc_ind (P := fun l => run l = [] → ∀ c ∈ l, c = 32) (by simp) (fun l c ih => ?_) l
  intro h
  rw [run_snoc] at h; unfold step at h
  split at h
  · rename_i h1
    intro x hx
    rw [List.mem_append, List.mem_singleton] at hx
    rcases hx with hx | rfl
    · exact ih h x hx
    · exact h1.1
  · simp at h
theorem run_head (l : List UInt8) : (run l).head? ≠ some 32 ∧ ((run l).head? = some 35 → l.head? = some 35 ∨ l.head? = some 32) := by
  refine snoc_ind (P := fun l => (run l).head? ≠ some 32 ∧ ((run l).head? = some 35 → l.head? = some 35 ∨ l.head? = some 32)) (by simp [run]) (fun l c ih => ?_) l
  show (run (l ++ [c])).head? ≠ some 32 ∧ ((run (l ++ [c])).head? = some 35 → (l ++ [c]).head? = some 35 ∨ (l ++ [c]).head? = some 32)
  have hh : ∀ x : UInt8, l.head? = some x → (l ++ [c]).head? = some x := fun x hx => by
    cases l with
    | nil => cases hx
    | cons a l => simpa using hx
  rw [run_snoc]; unfold step
  split
  · exact ⟨ih.1, fun h => (ih.2 h).imp (hh _) (hh _)⟩
  · rename_i h1
    cases hr : run l with
    | nil =>
      simp only [List.nil_append, List.head?_cons, Option.some.injEq, ne_eq]
      refine ⟨fun h => h1 ⟨(sm_blank c).1 h, by rw [hr]; rfl⟩, fun h => ?_⟩
      have hc : c = 35 := by
        have h2 : (sm c).toNat = 35 := by rw [h]; rfl
        rw [sm_toNat] at h2
        apply u8_ext; unfold smN at h2
        show c.toNat = 35
        split at h2 <;> omega
      cases l with
      | nil => left; simp [hc]
      | cons a l =>
        right
        have := run_nil_blank _ hr a (by simp)
        simp [this]
    | cons a o =>
      rw [hr] at ih
      simp only [List.cons_append, List.head?_cons] at ih ⊢
      exact ⟨ih.1, fun h => (ih.2 h).imp (hh _) (hh _)⟩
theorem prep_bas (l : List UInt8) : bas (prep l) ≤ bas l := by
  have h := run_bas l
  unfold prep
  split
  · have h2 : bas (run l) = bas (run l).dropLast + bas ((run l).getLast?.toList) := by
      rw [← bas_append]; congr 1
      cases hr : run l with
      | nil => rfl
      | cons a r =>
        rw [List.getLast?_eq_some_getLast (by simp)]
        simp only [Option.toList_some]
        exact (List.dropLast_concat_getLast (by simp)).symm
    omega
  · exact h
theorem prep_head (l : List UInt8) : (prep l).head? ≠ some 32 ∧ ((prep l).head? = some 35 → l.head? = some 35 ∨ l.head? = some 32) := by
  have h := run_head l
  unfold prep
  split
  · cases hr : run l with
    | nil => simp
    | cons a r =>
      rw [hr] at h
      cases r with
      | nil => simp
      | cons b r => simpa using h
  · exact h
theorem prep_last (l : List UInt8) : (prep l).getLast? ≠ some 32 := by
  obtain ⟨a, b, rfl, hb, ha⟩ := parts l
  rw [prep_parts a b ha hb]
  rcases ha with rfl | ⟨x, c, rfl, hc⟩
  · simp [run]
  · by_cases h : run (x ++ [c]) = []
    · rw [h]; simp
    · intro h2; exact hc ((last_run x c h).1 h2)
theorem wr_prep (v : List UInt8) : (wrL (prep v)).length ≤ (wrL v).length := by
  have h1 := wr_up true (prep v) (fun _ => (prep_head v).1) (prep_last v)
  have h2 := wr_low true v
  have h3 := prep_bas v
  unfold wrL
  by_cases h : (prep v).head? = some 35
  · have h4 : (v.head? == some 32 || v.head? == some 35) = true := by
      rcases (prep_head v).2 h with h | h <;> rw [h] <;> rfl
    rw [h4] at h2
    rw [h] at h1
    simp at h1 h2; omega
  · have h4 : ((prep v).head? == some 35) = false := by simpa using h
    rw [h4] at h1
    simp at h1; omega
theorem av_plain_len (a : Av) : (avL (plainA a)).length ≤ (avL a).length := by
  have := wr_prep a.2
  simp only [avL, plainA, foldL, List.length_append, List.length_map, List.length_singleton]; omega

/-! ### sorted -/
theorem le_trans9 (a b c : List UInt8) : leB a b = true → leB b c = true → leB a c = true := by
  simp only [leB, decide_eq_true_eq]; exact fun h1 h2 => List.le_trans h1 h2
theorem le_total9 (a b : List UInt8) : (leB a b || leB b a) = true := by
  simp only [leB, Bool.or_eq_true, decide_eq_true_eq]; exact List.le_total a b
/-- An RDN without what makes no difference. -/
def sortA (r : List Av) : List Av := (r.map plainA).mergeSort fun a b => leB (avL a) (avL b)
theorem spelt_sort (r : List Av) : speltL (sortA r) = normL r := by
  unfold speltL sortA normL
  rw [List.map_mergeSort (s := leB) (fun a _ b _ => rfl), List.map_map]; rfl
theorem sort_perm (r : List Av) : (sortA r).Perm (r.map plainA) := List.mergeSort_perm _ _
theorem plain_plain (a : Av) : plainA (plainA a) = plainA a := by
  simp only [plainA, foldL, prep_prep, fold_fold]
theorem sort_plain {r : List Av} {a : Av} (h : a ∈ sortA r) : plainA a = a := by
  have := (sort_perm r).mem_iff.1 h
  rw [List.mem_map] at this
  obtain ⟨b, _, rfl⟩ := this
  exact plain_plain b
theorem norm_sort (r : List Av) : normL (sortA r) = normL r := by
  have e : (sortA r).map (fun a => avL (plainA a)) = normL r := by
    rw [← spelt_sort]; unfold speltL
    exact List.map_congr_left fun a ha => by rw [sort_plain ha]
  unfold normL at e ⊢
  rw [e]
  exact List.mergeSort_of_pairwise (List.pairwise_mergeSort le_trans9 le_total9 _)
theorem typ_fold {t : List UInt8} (h : typL t = true) : typL (foldL t) = true := by
  match t with
  | c :: r =>
    have hlet : ∀ x : UInt8, letN (sm x).toNat = letN x.toNat := fun x => by
      rw [sm_toNat]; unfold letN smN
      by_cases h : 65 ≤ x.toNat ∧ x.toNat ≤ 90
      · rw [if_pos h, Bool.eq_iff_iff]; simp only [decide_eq_true_eq]; omega
      · rw [if_neg h]
    have hty : ∀ x : UInt8, tyN (sm x).toNat = tyN x.toNat := fun x => by
      unfold tyN; rw [hlet, sm_toNat]; unfold digN letN smN
      by_cases h : 65 ≤ x.toNat ∧ x.toNat ≤ 90
      · rw [if_pos h, Bool.eq_iff_iff]; simp only [Bool.or_eq_true, decide_eq_true_eq]; omega
      · rw [if_neg h]
    simp only [typL, foldL, List.map_cons, Bool.and_eq_true, decide_eq_true_eq, List.length_map, hlet] at h ⊢
    refine ⟨h.1, ?_⟩
    rw [List.all_eq_true] at h ⊢
    intro x hx
    rw [List.mem_map] at hx
    obtain ⟨y, hy, rfl⟩ := hx
    rw [hty]; exact h.2 y hy
theorem sort_VR {r : List Av} (h : VR r) : VR (sortA r) := by
  have hp := sort_perm r
  refine ⟨fun e => ?_, ?_, fun a ha => ?_, ?_⟩
  · have := hp.length_eq; rw [e] at this; simp at this; exact h.1 (List.eq_nil_of_length_eq_zero this.symm)
  · rw [hp.length_eq, List.length_map]; exact h.2.1
  · have := hp.mem_iff.1 ha
    rw [List.mem_map] at this
    obtain ⟨b, hb, rfl⟩ := this
    exact typ_fold (h.2.2.1 b hb)
  · refine (hp.pairwise_iff (fun {a b} hab => Ne.symm hab)).2 ?_
    rw [List.pairwise_map]
    refine h.2.2.2.imp fun {a b} hab => ?_
    simp only [plainA, foldL, fold_fold]; exact hab

theorem inter_sum (sep : List UInt8) (hs : sep.length = 1) : ∀ ls : List (List UInt8), (sep.intercalate ls).length = (ls.map List.length).sum + (ls.length - 1)
  | [] => by simp [List.intercalate]
  | [a] => by simp [List.intercalate]
  | a :: b :: r => by
    rw [inter_cons2, List.length_append, List.length_append, hs, inter_sum sep hs (b :: r)]
    simp; omega
theorem sum_le {α : Type} (f g : α → Nat) (h : ∀ a, f a ≤ g a) : ∀ l : List α, (l.map f).sum ≤ (l.map g).sum
  | [] => by simp
  | a :: l => by have := sum_le f g h l; have := h a; simp; omega
theorem norm_len_le (r : List Av) : ([43].intercalate (normL r)).length ≤ ([43].intercalate (speltL r)).length := by
  rw [inter_sum [43] rfl, inter_sum [43] rfl]
  have hp : (normL r).Perm (r.map fun a => avL (plainA a)) := List.mergeSort_perm _ _
  have h1 : ((normL r).map List.length).sum = ((r.map fun a => avL (plainA a)).map List.length).sum := (hp.map _).sum_nat
  have h2 := hp.length_eq
  rw [h1, h2, List.map_map]
  have h3 : (r.map (List.length ∘ fun a => avL (plainA a))).sum ≤ ((speltL r).map List.length).sum := by
    unfold speltL; rw [List.map_map]
    exact sum_le _ _ (fun a => av_plain_len a) r
  have h4 : (speltL r).length = r.length := by simp [speltL]
  rw [List.length_map, h4]; omega
theorem text_len_le (d : List (List Av)) : (textL normL d).length ≤ (textL speltL d).length := by
  unfold textL
  rw [inter_sum [44] rfl, inter_sum [44] rfl, List.map_map, List.map_map, List.length_map, List.length_map]
  have := sum_le (List.length ∘ fun r => [43].intercalate (normL r)) (List.length ∘ fun r => [43].intercalate (speltL r)) (fun r => norm_len_le r) d
  omega
theorem text_sort (d : List (List Av)) : textL speltL (d.map sortA) = textL normL d := by
  unfold textL; rw [List.map_map]; congr 1
  exact List.map_congr_left fun r _ => by simp only [Function.comp, spelt_sort]
theorem text_norm_sort (d : List (List Av)) : textL normL (d.map sortA) = textL normL d := by
  unfold textL; rw [List.map_map]; congr 1
  exact List.map_congr_left fun r _ => by simp only [Function.comp, norm_sort]
theorem printD_of {d : List (List Av)} (h32 : d.length ≤ 32) (hv : ∀ r ∈ d, VR r) (hl : (textL speltL d).length ≤ 4096) (hlong : d.any longR = false) : printD d = .ok (textL speltL d) := by
  have h0 : askD d = 0 := by
    unfold askD
    rw [VR_askF d 0 (by omega) hv, hlong]; rfl
  unfold printD
  rw [h0, if_neg (by simp), if_neg (by omega)]
theorem print_long {d : List (List Av)} {t : List UInt8} (h : printD d = .ok t) : d.any longR = false := by
  unfold printD at h
  split at h
  · cases h
  rename_i h1
  have h1 : askD d = 0 := by simpa using h1
  unfold askD at h1
  split at h1
  · rename_i h3; exact absurd h1 h3
  split at h1
  · cases h1
  · rename_i h2; simpa using h2
theorem sort_long {d : List (List Av)} (h : d.any longR = false) : (d.map sortA).any longR = false := by
  rw [List.any_eq_false] at h ⊢
  intro r hr
  rw [List.mem_map] at hr
  obtain ⟨q, hq, rfl⟩ := hr
  have h1 := h q hq
  simp only [longR, List.any_eq_true, not_exists, not_and, decide_eq_true_eq] at h1 ⊢
  intro a ha
  have := (sort_perm q).mem_iff.1 ha
  rw [List.mem_map] at this
  obtain ⟨b, hb, rfl⟩ := this
  have h2 := h1 b hb
  have h3 := prep_length b.2
  simp only [plainA]; omega
/-- The key of a name, read, is the name without what makes no difference. -/
theorem key_reads {d : List (List Av)} {k : List UInt8} (h : keyD d = .ok k) : dnL k = .ok (d.map sortA) ∧ printD (d.map sortA) = .ok k := by
  unfold keyD at h
  cases hp : printD d with
  | error e => rw [hp] at h; cases h
  | ok t =>
    rw [hp] at h; cases h
    obtain ⟨h1, h2, rfl, h4⟩ := printD_good hp
    have hv : ∀ r ∈ d.map sortA, VR r := by
      intro r hr
      rw [List.mem_map] at hr
      obtain ⟨q, hq, rfl⟩ := hr
      exact sort_VR (h2 q hq)
    have hl : (textL speltL (d.map sortA)).length ≤ 4096 := by rw [text_sort]; have := text_len_le d; omega
    have h5 := printD_of (d := d.map sortA) (by simpa using h1) hv hl (sort_long (print_long hp))
    have h6 := parse_print h5
    rw [text_sort] at h5 h6
    exact ⟨h6, h5⟩
/-- A key is its own key. -/
theorem key_key {d : List (List Av)} {k : List UInt8} (h : keyD d = .ok k) : keyL k = .ok k := by
  have h1 := key_reads h
  unfold keyL
  rw [h1.1]
  simp only [keyD, h1.2]
  unfold keyD at h
  cases hp : printD d with
  | error e => rw [hp] at h; cases h
  | ok t => rw [hp] at h; cases h; rw [text_norm_sort]
end Go.Proofs.YtfogcgegllhmmaaGreatDoor.Mt
