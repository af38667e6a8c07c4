/-
  An RDN sorted by putting one behind the other. Plain lists alone: nothing of the program stands here.
-/
import Derived.Test.YthpedokhalndjabDnBl
namespace Go.Proofs.Ythpedokhalndjab.Mt

/-- Where one more belongs. -/
def InsOK (l : List Av) (x : Av) (n : Nat) : Prop := n ≤ l.length ∧ (∀ h : 0 < n, ∀ h2 : n - 1 < l.length, leB (avL (l[n - 1])) (avL x) = true) ∧ ∀ j (h : j < l.length), n ≤ j → leB (avL l[j]) (avL x) = false
def insA (l : List Av) (x : Av) (n : Nat) : List Av := l.take n ++ [x] ++ l.drop n
theorem ins_perm (l : List Av) (x : Av) (n : Nat) : (insA l x n).Perm (l ++ [x]) := by
  unfold insA
  rw [List.append_assoc]
  have h1 : ([x] ++ l.drop n).Perm (l.drop n ++ [x]) := List.perm_append_comm
  have h2 := h1.append_left (l.take n)
  rw [← List.append_assoc (l.take n) (l.drop n), List.take_append_drop] at h2
  exact h2
theorem le_of_not (a b : List UInt8) (h : leB a b = false) : leB b a = true := by
  have := le_total9 a b
  rw [h] at this; simpa using this
theorem ins_sorted {l : List Av} {x : Av} {n : Nat} (hs : (l.map avL).Pairwise (fun a b => leB a b = true)) (hi : InsOK l x n) : ((insA l x n).map avL).Pairwise (fun a b => leB a b = true) := by
  unfold insA
  rw [List.pairwise_map] at hs ⊢
  have hsplit : (l.take n ++ l.drop n).Pairwise (fun a b => leB (avL a) (avL b) = true) := by rw [List.take_append_drop]; exact hs
  rw [List.pairwise_append] at hsplit
  have hbefore : ∀ a ∈ l.take n, leB (avL a) (avL x) = true := by
    intro a ha
    obtain ⟨j, hj, rfl⟩ := List.mem_iff_getElem.1 ha
    have hj2 := hj
    rw [List.length_take] at hj2
    have hil := hi.1
    rw [List.getElem_take]
    have hn : 0 < n := by omega
    have hl : n - 1 < l.length := by omega
    have h1 := hi.2.1 hn hl
    by_cases e : j = n - 1
    · subst e; exact h1
    · rw [List.pairwise_iff_getElem] at hs
      exact le_trans9 _ _ _ (hs j (n - 1) (by omega) hl (by omega)) h1
  have hafter : ∀ a ∈ l.drop n, leB (avL x) (avL a) = true := by
    intro a ha
    obtain ⟨j, hj, rfl⟩ := List.mem_iff_getElem.1 ha
    have hj2 := hj
    rw [List.length_drop] at hj2
    rw [List.getElem_drop]
    exact le_of_not _ _ (hi.2.2 (n + j) (by omega) (by omega))
  rw [List.append_assoc, List.pairwise_append]
  refine ⟨hsplit.1, ?_, ?_⟩
  · rw [List.singleton_append, List.pairwise_cons]
    exact ⟨hafter, hsplit.2.1⟩
  · intro a ha b hb
    rw [List.singleton_append, List.mem_cons] at hb
    rcases hb with rfl | hb
    · exact hbefore a ha
    · exact hsplit.2.2 a ha b hb
theorem le_anti9 {a b : List UInt8} (h1 : leB a b = true) (h2 : leB b a = true) : a = b := by
  simp only [leB, decide_eq_true_eq] at h1 h2
  exact List.le_antisymm h1 h2
theorem sorted_eq : ∀ {a b : List (List UInt8)}, a.Pairwise (fun a b => leB a b = true) → b.Pairwise (fun a b => leB a b = true) → a.Perm b → a = b
  | [], b, _, _, hp => (List.perm_nil.1 hp.symm).symm
  | x :: a, [], _, _, hp => by have := hp.length_eq; simp at this
  | x :: a, y :: b, ha, hb, hp => by
    rw [List.pairwise_cons] at ha hb
    have hxy : x = y := by
      have h1 : x ∈ y :: b := hp.mem_iff.1 (by simp)
      have h2 : y ∈ x :: a := hp.mem_iff.2 (by simp)
      rcases List.mem_cons.1 h1 with h1 | h1
      · exact h1
      · rcases List.mem_cons.1 h2 with h2 | h2
        · exact h2.symm
        · exact le_anti9 (ha.1 y h2) (hb.1 x h1)
    subst hxy
    rw [sorted_eq ha.2 hb.2 (List.Perm.cons_inv hp)]
/-- One after the other, each where it belongs: the texts are those of the key. -/
theorem ins_norm {l r : List Av} (hs : (l.map avL).Pairwise (fun a b => leB a b = true)) (hp : l.Perm (r.map plainA)) : speltL l = normL r := by
  unfold speltL normL
  refine sorted_eq hs (List.pairwise_mergeSort le_trans9 le_total9 _) ?_
  have h1 := hp.map avL
  rw [List.map_map] at h1
  exact h1.trans (List.mergeSort_perm _ _).symm
theorem ins_step {l r : List Av} {x : Av} {k n : Nat} (hk : k < r.length) (hx : x = plainA r[k]) (hp : l.Perm ((r.take k).map plainA)) : (insA l x n).Perm ((r.take (k + 1)).map plainA) := by
  rw [List.take_succ_eq_append_getElem hk, List.map_append]
  refine (ins_perm l x n).trans ?_
  rw [hx]
  exact hp.append_right _
end Go.Proofs.Ythpedokhalndjab.Mt
