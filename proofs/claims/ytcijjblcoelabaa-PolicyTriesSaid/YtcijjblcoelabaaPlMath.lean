/-
  Policies in plain lists: states, tries.
-/
import Derived.Test.YtcijjblcoelabaaMath
set_option linter.unusedVariables false
set_option linter.unusedSimpArgs false
namespace Go.Proofs.Ytcijjblcoelabaa.Mt

structure Po where
  fails : Int
  window : Int
  lock : Int
  age : Int
structure Ps where
  fails : List Int
  locked : Int
  changed : Int

def isT (n : Int) : Bool := decide (0 ≤ n) && decide (n ≤ 9007199254740991)
theorem isT_iff {n : Int} : isT n = true ↔ 0 ≤ n ∧ n ≤ 9007199254740991 := by unfold isT; rw [Bool.and_eq_true, decide_eq_true_eq, decide_eq_true_eq]
def okPo (p : Po) : Bool := decide (0 ≤ p.fails) && decide (p.fails ≤ 100) && isT p.window && isT p.lock && isT p.age
theorem okPo_iff {p : Po} : okPo p = true ↔ (0 ≤ p.fails ∧ p.fails ≤ 100) ∧ isT p.window = true ∧ isT p.lock = true ∧ isT p.age = true := by
  unfold okPo; simp only [Bool.and_eq_true, decide_eq_true_eq]
  exact ⟨fun ⟨⟨⟨⟨a, b⟩, c⟩, d⟩, e⟩ => ⟨⟨a, b⟩, c, d, e⟩, fun ⟨⟨a, b⟩, c, d, e⟩ => ⟨⟨⟨⟨a, b⟩, c⟩, d⟩, e⟩⟩
/-- Rising, or the same. -/
def riseB (l : List Int) : Bool := decide (l.Pairwise (· ≤ ·))
theorem pair_take {l : List Int} {i : Nat} (h : i < l.length) : (l.take (i + 1)).Pairwise (· ≤ ·) ↔ (l.take i).Pairwise (· ≤ ·) ∧ (i = 0 ∨ l.getD (i - 1) 0 ≤ l[i]) := by
  rw [List.take_succ_eq_append_getElem h, List.pairwise_append]
  constructor
  · rintro ⟨h1, -, h3⟩
    refine ⟨h1, ?_⟩
    by_cases h0 : i = 0
    · exact .inl h0
    · refine .inr (h3 _ ?_ _ (by simp))
      rw [List.mem_iff_getElem]
      refine ⟨i - 1, by rw [List.length_take]; omega, ?_⟩
      rw [List.getElem_take, List.getD_eq_getElem?_getD, List.getElem?_eq_getElem (by omega)]; rfl
  · rintro ⟨h1, h2⟩
    refine ⟨h1, by simp, fun a ha b hb => ?_⟩
    obtain rfl : b = l[i] := by simpa using hb
    rcases h2 with rfl | h2
    · simp at ha
    · obtain ⟨j, hj, rfl⟩ := List.mem_iff_getElem.1 ha
      have hj2 : j < i := by rw [List.length_take] at hj; omega
      have h3 : (l.take i)[j] ≤ l.getD (i - 1) 0 := by
        rw [List.getD_eq_getElem?_getD, List.getElem?_eq_getElem (by omega)]
        show _ ≤ l[i - 1]
        by_cases e : j = i - 1
        · subst e; rw [List.getElem_take]; exact Int.le_refl _
        · have := (List.pairwise_iff_getElem.1 h1) j (i - 1) hj (by rw [List.length_take]; omega) (by omega)
          simpa using this
      exact Int.le_trans h3 h2
/-- So far each is a time, and they rise. -/
def goodTo (l : List Int) (i : Nat) : Bool := (l.take i).all isT && riseB (l.take i)
theorem goodTo_zero (l : List Int) : goodTo l 0 = true := by simp [goodTo, riseB]
theorem goodTo_step {l : List Int} {i : Nat} (h : i < l.length) : goodTo l (i + 1) = (goodTo l i && (isT l[i] && (decide (i = 0) || decide (l.getD (i - 1) 0 ≤ l[i])))) := by
  unfold goodTo riseB
  rw [Bool.eq_iff_iff]
  simp only [Bool.and_eq_true, Bool.or_eq_true, decide_eq_true_eq, pair_take h]
  rw [List.take_succ_eq_append_getElem h, List.all_append]
  simp only [List.all_cons, List.all_nil, Bool.and_true, Bool.and_eq_true]
  constructor
  · rintro ⟨⟨a, b⟩, c, d⟩; exact ⟨⟨a, c⟩, b, d⟩
  · rintro ⟨⟨a, c⟩, b, d⟩; exact ⟨⟨a, b⟩, c, d⟩
theorem goodTo_mono {l : List Int} {i : Nat} (h : goodTo l i = false) : goodTo l l.length = false := by
  by_cases hi : i < l.length
  · have : ∀ k, i + k ≤ l.length → goodTo l (i + k) = false := by
      intro k
      induction k with
      | zero => intro _; exact h
      | succ k ih => intro hk; rw [← Nat.add_assoc, goodTo_step (by omega), ih (by omega)]; rfl
    have := this (l.length - i) (by omega)
    rwa [show i + (l.length - i) = l.length by omega] at this
  · unfold goodTo at *
    rwa [List.take_of_length_le (by omega), ← List.take_length (l := l)] at h
/-- Is it a state? -/
def rightB (s : Ps) : Bool := decide (s.fails.length ≤ 100) && riseB s.fails && isT s.changed && s.fails.all isT && (decide (s.locked = -1) || isT s.locked)
theorem rightB_good (s : Ps) : rightB s = (decide (s.fails.length ≤ 100) && isT s.changed && (decide (s.locked = -1) || isT s.locked) && goodTo s.fails s.fails.length) := by
  unfold rightB goodTo
  rw [List.take_length]
  cases decide (s.fails.length ≤ 100) <;> cases riseB s.fails <;> cases isT s.changed <;> cases s.fails.all isT <;> cases (decide (s.locked = -1) || isT s.locked) <;> rfl
theorem rightB_iff {s : Ps} : rightB s = true ↔ s.fails.length ≤ 100 ∧ s.fails.Pairwise (· ≤ ·) ∧ isT s.changed = true ∧ (∀ t ∈ s.fails, isT t = true) ∧ (s.locked = -1 ∨ isT s.locked = true) := by
  unfold rightB riseB
  simp only [Bool.and_eq_true, Bool.or_eq_true, decide_eq_true_eq, List.all_eq_true]
  exact ⟨fun ⟨⟨⟨⟨a, b⟩, c⟩, d⟩, e⟩ => ⟨a, b, c, d, e⟩, fun ⟨a, b, c, d, e⟩ => ⟨⟨⟨⟨a, b⟩, c⟩, d⟩, e⟩⟩
def newS (now : Int) : Ps := ⟨[], -1, now⟩
/-- Is it locked at now? -/
def lockedB (p : Po) (s : Ps) (now : Int) : Bool := !decide (s.locked = -1) && (decide (p.lock = 0) || decide (now - s.locked < p.lock))
/-- Those failures that still count. -/
def overB (p : Po) (now t : Int) : Bool := decide (0 < p.window) && decide (p.window ≤ now - t)
def countL (p : Po) (s : Ps) (now : Int) : List Int := if s.locked = -1 then s.fails.filter (fun t => !overB p now t) else []
def aheadL (l : List Int) (now : Int) : List Int := l.filter (fun t => decide (t < now))
def behindL (l : List Int) (now : Int) : List Int := l.filter (fun t => !decide (t < now))
def insL (l : List Int) (now : Int) : List Int := aheadL l now ++ now :: behindL l now
def lastL (l : List Int) : List Int := l.drop (l.length - 100)
def failL (p : Po) (s : Ps) (now : Int) : Ps :=
  if (decide (0 < p.fails) && decide (p.fails ≤ ((insL (countL p s now) now).length : Int))) = true then ⟨[], now, s.changed⟩ else ⟨lastL (insL (countL p s now) now), -1, s.changed⟩
def staleB (p : Po) (s : Ps) (now : Int) : Bool := decide (0 < p.age) && decide (p.age ≤ now - s.changed)
def tryL (p : Po) (s : Ps) (now : Int) (right : Bool) : Ps × Int :=
  if (okPo p && (rightB s && isT now)) = false then (s, 1)
  else if lockedB p s now = true then (s, 2)
  else if right = false then (failL p s now, 1)
  else if staleB p s now = true then (s, 3)
  else (newS s.changed, 0)
theorem ahead_behind (l : List Int) (now : Int) : (aheadL l now).length + (behindL l now).length = l.length := by
  unfold aheadL behindL
  induction l with
  | nil => rfl
  | cons a l ih =>
    by_cases h : a < now
    · simp only [List.filter_cons, h, decide_true, Bool.not_true, if_true, Bool.false_eq_true, if_false, List.length_cons]; omega
    · simp only [List.filter_cons, h, decide_false, Bool.not_false, if_true, Bool.false_eq_true, if_false, List.length_cons]; omega
theorem insL_len (l : List Int) (now : Int) : (insL l now).length = l.length + 1 := by
  have := ahead_behind l now
  unfold insL
  rw [List.length_append, List.length_cons]; omega
theorem countL_len (p : Po) (s : Ps) (now : Int) : (countL p s now).length ≤ s.fails.length := by
  unfold countL; split
  · exact List.length_filter_le _ _
  · simp
theorem countL_mem {p : Po} {s : Ps} {now t : Int} (h : t ∈ countL p s now) : t ∈ s.fails := by
  unfold countL at h; split at h
  · exact (List.mem_filter.1 h).1
  · simp at h
theorem countL_pair {p : Po} {s : Ps} {now : Int} (h : s.fails.Pairwise (· ≤ ·)) : (countL p s now).Pairwise (· ≤ ·) := by
  unfold countL; split
  · exact h.filter _
  · exact List.Pairwise.nil
/-- In a rising list those ahead of now stand ahead. -/
theorem rise_split {l : List Int} (h : l.Pairwise (· ≤ ·)) (now : Int) : l = aheadL l now ++ behindL l now := by
  unfold aheadL behindL
  induction l with
  | nil => rfl
  | cons a l ih =>
    rw [List.pairwise_cons] at h
    by_cases ha : a < now
    · simp only [List.filter_cons, ha, decide_true, Bool.not_true, if_true, Bool.false_eq_true, if_false, List.cons_append]
      rw [← ih h.2]
    · have h0 : l.filter (fun t => decide (t < now)) = [] := by
        rw [List.filter_eq_nil_iff]
        intro t ht
        have := h.1 t ht
        simp; omega
      have h1 : l.filter (fun t => !decide (t < now)) = l := by
        rw [List.filter_eq_self]
        intro t ht
        have := h.1 t ht
        simp; omega
      simp only [List.filter_cons, ha, decide_false, Bool.not_false, if_true, Bool.false_eq_true, if_false, h0, h1, List.nil_append]
theorem rise_take {l : List Int} (h : l.Pairwise (· ≤ ·)) (now : Int) : l.take (aheadL l now).length = aheadL l now ∧ l.drop (aheadL l now).length = behindL l now := by
  have := rise_split h now
  generalize ha : aheadL l now = a at *
  generalize behindL l now = b at *
  clear ha
  subst this
  exact ⟨List.take_left' rfl, List.drop_left' rfl⟩
/-- Where now belongs in a rising list. -/
theorem rise_at {l : List Int} (h : l.Pairwise (· ≤ ·)) (now : Int) {k : Nat} (hk : k ≤ l.length) (h1 : ∀ j (hj : j < l.length), j < k → l[j] < now) (h2 : ∀ j (hj : j < l.length), k ≤ j → now ≤ l[j]) : k = (aheadL l now).length := by
  have e1 := rise_split h now
  have hlen := ahead_behind l now
  rcases Nat.lt_trichotomy k (aheadL l now).length with hlt | he | hgt
  · exfalso
    have := h2 k (by omega) (Nat.le_refl _)
    have h3 : l[k]'(by omega) = (aheadL l now)[k] := by
      have := List.getElem_of_eq e1 (i := k) (by omega)
      rw [this, List.getElem_append_left hlt]
    have h4 : (aheadL l now)[k] ∈ aheadL l now := List.getElem_mem _
    have h5 := (List.mem_filter.1 h4).2
    rw [decide_eq_true_eq] at h5
    omega
  · exact he
  · exfalso
    have hb : (aheadL l now).length < l.length := by omega
    have := h1 (aheadL l now).length hb hgt
    have h3 : l[(aheadL l now).length]'hb = (behindL l now)[0]'(by omega) := by
      have := List.getElem_of_eq e1 (i := (aheadL l now).length) hb
      rw [this, List.getElem_append_right (Nat.le_refl _)]; simp
    have h4 : (behindL l now)[0]'(by omega) ∈ behindL l now := List.getElem_mem _
    have h5 := (List.mem_filter.1 h4).2
    simp at h5
    omega
/-- How many of a list's beginning are ahead of now. -/
theorem lastL_short {l : List Int} (h : l.length ≤ 100) : lastL l = l := by
  unfold lastL; rw [show l.length - 100 = 0 by omega]; rfl
theorem lastL_len (l : List Int) : (lastL l).length ≤ 100 := by unfold lastL; rw [List.length_drop]; omega
/-- The first place of which something holds; -1, where there is none. -/
def idxI {α : Type} (p : α → Bool) (l : List α) : Int := match l.findIdx? p with
  | some i => i
  | none => -1
theorem idxI_spec {α : Type} (p : α → Bool) (l : List α) : (idxI p l = -1 ∧ ∀ j (hj : j < l.length), p l[j] = false) ∨ ∃ m : Nat, idxI p l = m ∧ ∃ hm : m < l.length, p l[m] = true ∧ ∀ j (hj : j < m), p (l[j]'(by omega)) = false := by
  unfold idxI
  cases hf : l.findIdx? p with
  | none =>
    rw [List.findIdx?_eq_none_iff] at hf
    exact .inl ⟨rfl, fun j hj => hf _ (List.getElem_mem hj)⟩
  | some m =>
    rw [List.findIdx?_eq_some_iff_getElem] at hf
    obtain ⟨hm, h1, h2⟩ := hf
    exact .inr ⟨m, rfl, hm, h1, fun j hj => by have := h2 j hj; simpa using this⟩
theorem idxI_any {α : Type} (p : α → Bool) (l : List α) : decide (0 ≤ idxI p l) = l.any p := by
  rcases idxI_spec p l with ⟨h1, h2⟩ | ⟨m, h1, hm, h2, _⟩
  · rw [h1]
    have : l.any p = false := by
      rw [List.any_eq_false]
      intro x hx
      obtain ⟨j, hj, rfl⟩ := List.mem_iff_getElem.1 hx
      rw [h2 j hj]; decide
    rw [this]; rfl
  · rw [h1]
    have : l.any p = true := List.any_eq_true.2 ⟨_, List.getElem_mem hm, h2⟩
    rw [this]
    exact decide_eq_true (by omega)
theorem idxI_ge {α : Type} (p : α → Bool) (l : List α) : -1 ≤ idxI p l := by
  rcases idxI_spec p l with ⟨h1, _⟩ | ⟨m, h1, _⟩ <;> omega
end Go.Proofs.Ytcijjblcoelabaa.Mt
