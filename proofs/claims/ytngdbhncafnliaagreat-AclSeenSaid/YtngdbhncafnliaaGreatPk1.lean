/-
  Some texts of one proof, one behind the other.
-/
import Derived.Test.YtngdbhncafnliaaGreatPk0
set_option linter.unusedVariables false
set_option linter.unusedSimpArgs false

/-
  Plain facts on texts without blanks too many: the two ways to come to one are the same; once is enough. Nothing of the program stands here.
-/
namespace Go.Proofs.YtngdbhncafnliaaGreat.Mt

/-- A text is what ends with no blank, and blanks. -/
theorem parts (l : List UInt8) : ∃ a b : List UInt8, l = a ++ b ∧ (∀ c ∈ b, c = 32) ∧ (a = [] ∨ ∃ x c, a = x ++ [c] ∧ c ≠ 32) := by
  refine snoc_ind (P := fun l => ∃ a b : List UInt8, l = a ++ b ∧ (∀ c ∈ b, c = 32) ∧ (a = [] ∨ ∃ x c, a = x ++ [c] ∧ c ≠ 32)) ⟨[], [], rfl, by simp, .inl rfl⟩ (fun l c ih => ?_) l
  by_cases h : c = 32
  · obtain ⟨a, b, rfl, hb, ha⟩ := ih
    refine ⟨a, b ++ [c], by simp, ?_, ha⟩
    intro d hd
    rcases List.mem_append.1 hd with hd | hd
    · exact hb d hd
    · rw [List.mem_singleton.1 hd]; exact h
  · exact ⟨l ++ [c], [], by simp, by simp, .inr ⟨l, c, rfl, h⟩⟩

theorem last_run (x : List UInt8) (c : UInt8) (h : run (x ++ [c]) ≠ []) : (run (x ++ [c])).getLast? = some 32 ↔ c = 32 := by
  rw [run_snoc] at h ⊢
  unfold step at h ⊢
  by_cases hc : c = 32 ∧ endB (run x) = true
  · rw [if_pos hc] at h ⊢
    have := hc.2
    simp only [endB, Bool.or_eq_true, beq_iff_eq, List.isEmpty_iff] at this
    rcases this with h2 | h2
    · exact absurd h2 h
    · exact ⟨fun _ => hc.1, fun _ => h2⟩
  · rw [if_neg hc]
    simp [sm_blank]

theorem endB_run (x : List UInt8) (c : UInt8) : endB (run (x ++ [c])) = true ↔ run (x ++ [c]) = [] ∨ c = 32 := by
  by_cases h : run (x ++ [c]) = []
  · simp [endB, h]
  · simp only [endB, Bool.or_eq_true, beq_iff_eq, List.isEmpty_iff]
    rw [last_run x c h]

theorem run_blanks (a : List UInt8) (ha : a = [] ∨ ∃ x c, a = x ++ [c] ∧ c ≠ 32) (b : List UInt8) (hb : ∀ c ∈ b, c = 32) :
    (run (a ++ b) = run a ∧ (run a).getLast? ≠ some 32) ∨ run (a ++ b) = run a ++ [32] := by
  have hlast : (run a).getLast? ≠ some 32 := by
    rcases ha with rfl | ⟨x, c, rfl, hc⟩
    · simp [run]
    · intro h
      have hne : run (x ++ [c]) ≠ [] := by intro h0; rw [h0] at h; simp at h
      exact hc ((last_run x c hne).1 h)
  refine snoc_ind (P := fun b => (∀ c ∈ b, c = 32) → ((run (a ++ b) = run a ∧ (run a).getLast? ≠ some 32) ∨ run (a ++ b) = run a ++ [32])) (fun _ => .inl ⟨by simp, hlast⟩) (fun b c ih hbc => ?_) b hb
  have hc : c = 32 := hbc c (by simp)
  subst hc
  rw [← List.append_assoc, run_snoc]
  rcases ih (fun c hc => hbc c (by simp [hc])) with h | h
  · rw [h.1]
    unfold step
    by_cases he : endB (run a) = true
    · rw [if_pos ⟨rfl, he⟩]; exact .inl ⟨rfl, hlast⟩
    · rw [if_neg (by simp [he])]; exact .inr rfl
  · rw [h]
    unfold step
    rw [if_pos ⟨rfl, by simp [endB]⟩]
    exact .inr rfl

theorem prep_parts (a b : List UInt8) (ha : a = [] ∨ ∃ x c, a = x ++ [c] ∧ c ≠ 32) (hb : ∀ c ∈ b, c = 32) : prep (a ++ b) = run a := by
  unfold prep
  rcases run_blanks a ha b hb with h | h
  · rw [h.1, if_neg h.2]
  · rw [h]; simp

theorem later_mid (t : List UInt8) (i j : Nat) (hi : i ≤ j) (c : UInt8) (hj : t[j]? = some c) (hc : c ≠ 32) : later t i = true := by
  have hlt : j < t.length := by
    rcases Nat.lt_or_ge j t.length with h | h
    · exact h
    · rw [List.getElem?_eq_none h] at hj; cases hj
  exact later_true t i j hi hlt (by simp [List.getD, hj, hc])

theorem rb_eq_run (x : List UInt8) (c : UInt8) (b : List UInt8) (hc : c ≠ 32) : ∀ i, i ≤ (x ++ [c]).length → rb (((x ++ [c]) ++ b).map sm) i = run ((x ++ [c]).take i) := by
  intro i
  induction i with
  | zero => intro _; simp [rb, run]
  | succ i ih =>
    intro hi
    have ih := ih (by omega)
    have hlt : i < (x ++ [c]).length := by omega
    have hl : later (((x ++ [c]) ++ b).map sm) i = true := by
      refine later_mid _ i x.length (by simp at hlt; omega) (sm c) ?_ (fun h => hc ((sm_blank c).1 h))
      simp
    have ht : (((x ++ [c]) ++ b).map sm).getD i 0 = sm ((x ++ [c])[i]) := by
      simp only [List.getD, List.getElem?_map, List.getElem?_append_left hlt, List.getElem?_eq_getElem hlt]; rfl
    rw [List.take_succ_eq_append_getElem hlt, run_snoc]
    simp only [rb, rstep, ih, hl, ht, step]
    have hcond : (sm ((x ++ [c])[i]) = 32 ∧ (run ((x ++ [c]).take i) = [] ∨ (((x ++ [c]) ++ b).map sm).getD (i - 1) 0 = 32)) ↔ ((x ++ [c])[i] = 32 ∧ endB (run ((x ++ [c]).take i)) = true) := by
      rw [sm_blank]
      refine and_congr_right fun _ => ?_
      rcases Nat.eq_zero_or_pos i with rfl | hpos
      · simp [run, endB]
      · obtain ⟨k, rfl⟩ : ∃ k, i = k + 1 := ⟨i - 1, by omega⟩
        have hk : k < (x ++ [c]).length := by omega
        have ht2 : (((x ++ [c]) ++ b).map sm).getD (k + 1 - 1) 0 = sm ((x ++ [c])[k]) := by
          simp only [Nat.add_sub_cancel, List.getD, List.getElem?_map, List.getElem?_append_left hk, List.getElem?_eq_getElem hk]; rfl
        rw [ht2, sm_blank, List.take_succ_eq_append_getElem hk, endB_run]
    by_cases h : (x ++ [c])[i] = 32 ∧ endB (run ((x ++ [c]).take i)) = true
    · rw [if_pos h, if_pos (.inr (hcond.2 h))]
    · rw [if_neg h, if_neg (by rintro (h2 | h2); · cases h2
                               · exact h (hcond.1 h2))]

theorem rb_stay (t : List UInt8) (n : Nat) (h : ∀ m, n ≤ m → m < t.length → t.getD m 0 = 32) : ∀ i, rb t (n + i) = rb t n := by
  intro i
  induction i with
  | zero => rfl
  | succ i ih =>
    have hl : later t (n + i) = false := later_false t (n + i) (fun m h1 h2 => h m (by omega) h2)
    show rstep t (n + i) (rb t (n + i)) = _
    rw [rstep, if_pos (.inl hl), ih]

/-- The two ways come to one text. -/
theorem rb_prep (l : List UInt8) : rb (l.map sm) l.length = prep l := by
  obtain ⟨a, b, rfl, hb, ha⟩ := parts l
  rw [prep_parts a b ha hb]
  have hst : ∀ m, a.length ≤ m → m < ((a ++ b).map sm).length → ((a ++ b).map sm).getD m 0 = 32 := by
    intro m h1 h2
    have hmb : m - a.length < b.length := by simp at h2; omega
    have hh := hb (b[m - a.length]) (List.getElem_mem hmb)
    simp only [List.getD, List.getElem?_map, List.getElem?_append_right h1, List.getElem?_eq_getElem hmb, hh]
    rfl
  have e : (a ++ b).length = a.length + b.length := by simp
  rw [e, rb_stay _ _ hst]
  rcases ha with rfl | ⟨x, c, rfl, hc⟩
  · simp [rb, run]
  · rw [rb_eq_run x c b hc _ (Nat.le_refl _), List.take_of_length_le (Nat.le_refl _)]

theorem run_run (l : List UInt8) : run (run l) = run l := by
  refine snoc_ind (P := fun l => run (run l) = run l) rfl (fun l c ih => ?_) l
  show run (run (l ++ [c])) = run (l ++ [c])
  rw [run_snoc]
  by_cases h : c = 32 ∧ endB (run l) = true
  · rw [step, if_pos h]; exact ih
  · rw [step, if_neg h, run_snoc, ih, step, if_neg (by rw [sm_blank]; exact h), sm_sm]

/-- Once is enough. -/
theorem prep_prep (l : List UInt8) : prep (prep l) = prep l := by
  obtain ⟨a, b, rfl, hb, ha⟩ := parts l
  rw [prep_parts a b ha hb]
  have hlast : (run a).getLast? ≠ some 32 := by
    rcases run_blanks a ha [] (by simp) with h | h
    · exact h.2
    · rw [List.append_nil] at h
      exact absurd (congrArg List.length h) (by simp)
  rw [prep, run_run, if_neg hlast]

theorem prep_ahead (l : List UInt8) : prep (32 :: l) = prep l := by
  have h : run (32 :: l) = run l := by
    show List.foldl step (step [] 32) l = List.foldl step [] l
    rfl
  unfold prep; rw [h]
theorem prep_behind (l : List UInt8) : prep (l ++ [32]) = prep l := by
  obtain ⟨a, b, rfl, hb, ha⟩ := parts l
  rw [prep_parts a b ha hb, List.append_assoc, prep_parts a (b ++ [32]) ha]
  intro c hc
  rcases List.mem_append.1 hc with hc | hc
  · exact hb c hc
  · exact List.mem_singleton.1 hc
theorem prep_fold (l : List UInt8) : prep (l.map sm) = prep l := by
  have h : run (l.map sm) = run l := by
    refine snoc_ind (P := fun l => run (l.map sm) = run l) rfl (fun l c ih => ?_) l
    show run ((l ++ [c]).map sm) = run (l ++ [c])
    rw [List.map_append, List.map_singleton, run_snoc, run_snoc, ih]
    simp only [step, sm_blank, sm_sm]
  unfold prep; rw [h]
theorem fold_fold (l : List UInt8) : (l.map sm).map sm = l.map sm := by
  rw [List.map_map]; congr 1; funext c; exact sm_sm c
theorem prep_length (l : List UInt8) : (prep l).length ≤ l.length := by
  have := run_length l
  unfold prep
  split <;> simp <;> omega

/-- A text with blanks at its ends. -/
def wid (s : ByteArray) : Nat → ByteArray
  | 0 => s
  | k + 1 => ⟨#[32]⟩ ++ wid s k ++ ⟨#[32]⟩
theorem wid_data (s : ByteArray) (k : Nat) : (wid s (k + 1)).data.toList = 32 :: (wid s k).data.toList ++ [32] := by
  simp [wid]
theorem wid_size (s : ByteArray) : ∀ k, (wid s k).size = s.size + 2 * k
  | 0 => rfl
  | k + 1 => by
    have h := wid_size s k
    have e : (wid s (k + 1)).size = (wid s (k + 1)).data.toList.length := rfl
    have e2 : (wid s k).size = (wid s k).data.toList.length := rfl
    rw [e, wid_data, List.cons_append, List.length_cons, List.length_append, List.length_singleton, ← e2]; omega
theorem wid_prep (s : ByteArray) : ∀ k, prep (wid s k).data.toList = prep s.data.toList
  | 0 => rfl
  | k + 1 => by rw [wid_data, prep_behind, prep_ahead, wid_prep s k]

end Go.Proofs.YtngdbhncafnliaaGreat.Mt
