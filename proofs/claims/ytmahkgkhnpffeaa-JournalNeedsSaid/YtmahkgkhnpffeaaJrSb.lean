/-
  What find goes through: a row of cells, sector by sector.
-/
import Derived.Test.YtmahkgkhnpffeaaJrSa
namespace Go.Proofs.Ytmahkgkhnpffeaa
open Go.RowKit
/-- The row behind k sectors. -/
def Mt.hlRow (d : Mt.Dk) (N k : Nat) : List Mt.Cl := [Mt.Cl.zero, Mt.Cl.zero] ++ (d.cellsFrom 2 (k - 2) ++ List.replicate (N - k) Mt.Cl.zero)
theorem Mt.cellsFrom_length (d : Mt.Dk) (a n : Nat) : (d.cellsFrom a n).length = n := by simp [Mt.Dk.cellsFrom]
theorem Mt.hlRow_length (d : Mt.Dk) (N k : Nat) (h2 : 2 ≤ k) (hk : k ≤ N) : (Mt.hlRow d N k).length = N := by
  unfold Mt.hlRow
  simp only [List.length_append, Mt.cellsFrom_length, List.length_replicate, List.length_cons, List.length_nil]
  omega
theorem Mt.hlRow_two (d : Mt.Dk) (N : Nat) (h : 2 ≤ N) : Mt.hlRow d N 2 = List.replicate N Mt.Cl.zero := by
  unfold Mt.hlRow Mt.Dk.cellsFrom
  obtain ⟨m, rfl⟩ : ∃ m, N = m + 2 := ⟨N - 2, by omega⟩
  rw [List.replicate_succ, List.replicate_succ]
  simp
theorem Mt.cellsFrom_snoc (d : Mt.Dk) (a n : Nat) : d.cellsFrom a (n + 1) = d.cellsFrom a n ++ [Mt.rdCell (d.sec (a + n))] := by
  unfold Mt.Dk.cellsFrom
  rw [List.range_succ, List.map_append]; rfl
theorem Mt.hlRow_set (d : Mt.Dk) (N k : Nat) (h2 : 2 ≤ k) (hk : k < N) : (Mt.hlRow d N k).set k (Mt.rdCell (d.sec k)) = Mt.hlRow d N (k + 1) := by
  unfold Mt.hlRow
  have e : N - k = (N - (k + 1)) + 1 := by omega
  have e2 : k + 1 - 2 = (k - 2) + 1 := by omega
  have hl := Mt.cellsFrom_length d 2 (k - 2)
  rw [List.set_append_right _ _ (by simpa using h2), List.length_cons, List.length_cons, List.length_nil, List.set_append_right _ _ (by rw [hl]; omega), hl, show k - (0 + 1 + 1) - (k - 2) = 0 by omega, e, List.replicate_succ, List.set_cons_zero, e2, Mt.cellsFrom_snoc, show 2 + (k - 2) = k by omega]
  simp
theorem Mt.hlRow_full (d : Mt.Dk) (N : Nat) : Mt.hlRow d N N = [Mt.Cl.zero, Mt.Cl.zero] ++ d.cellsFrom 2 (N - 2) := by
  unfold Mt.hlRow
  simp
theorem Mt.greatest_row (d : Mt.Dk) (N a b : Nat) : Mt.greatest (Mt.hlRow d N N) a b = Mt.greatest (d.cellsFrom 2 (N - 2)) a b := by
  rw [Mt.hlRow_full]
  simp [Mt.greatest, Mt.Cl.zero]
theorem Mt.part_row (d : Mt.Dk) (z h : Nat) (hh : h ≤ 1) : ((Mt.hlRow d (2 + 2 * z) (2 + 2 * z)).drop (2 + h * z)).take z = d.cellsFrom (2 + h * z) z := by
  have hlen : h * z + z ≤ 2 * z := by
    have : h = 0 ∨ h = 1 := by omega
    rcases this with rfl | rfl <;> omega
  rw [Mt.hlRow_full, show 2 + 2 * z - 2 = 2 * z by omega, ← List.drop_drop]
  have e : ([Mt.Cl.zero, Mt.Cl.zero] ++ d.cellsFrom 2 (2 * z)).drop 2 = d.cellsFrom 2 (2 * z) := rfl
  rw [e]
  apply List.ext_getElem
  · rw [List.length_take, List.length_drop, Mt.cellsFrom_length, Mt.cellsFrom_length]; omega
  · intro i h1 h2
    rw [List.getElem_take, List.getElem_drop]
    simp only [Mt.Dk.cellsFrom, List.getElem_map, List.getElem_range]
    rw [show 2 + (h * z + i) = 2 + h * z + i by omega]
theorem Mt.row_body (d : Mt.Dk) (a n : Nat) : ∀ c ∈ d.cellsFrom a n, c.body.length ≤ 110 := by
  intro c hc
  unfold Mt.Dk.cellsFrom at hc
  rw [List.mem_map] at hc
  obtain ⟨i, _, rfl⟩ := hc
  unfold Mt.rdCell
  split
  · rename_i h
    show ((List.drop 18 _).take _).length ≤ 110
    rw [List.length_take]
    have := h.2.2.1
    omega
  · show (0 : Nat) ≤ 110; omega
end Go.Proofs.Ytmahkgkhnpffeaa
