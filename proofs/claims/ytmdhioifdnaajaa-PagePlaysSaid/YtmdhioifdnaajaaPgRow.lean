/-
  Rows of elements of some cells each: some of them left out in place, what is behind cleared.
-/
import Derived.Test.YtmdhioifdnaajaaGp
import Derived.Lib.SliceRun
import Derived.Laws.IdiomCopy
set_option linter.unusedVariables false
set_option linter.unusedSimpArgs false
namespace Go.Proofs.Ytmdhioifdnaajaa
open Go.RowKit

/-- Many cells stored into a row. -/
theorem row_setCellsG {E : TypeId} (g : Nat) : ∀ (vs : List Value) (o : Nat) (w : World) (cur : Array Value), w.heap[g]? = some (.cells cur E (0, 0)) → o + vs.length ≤ cur.size →
    ∃ cur' : Array Value, (w.setCells g o vs).heap[g]? = some (.cells cur' E (0, 0)) ∧ cur'.size = cur.size ∧ (∀ k, k < o ∨ o + vs.length ≤ k → cur'[k]? = cur[k]?) ∧ (∀ j (hj : j < vs.length), cur'[o + j]? = some vs[j]) ∧ OnlyS [g] w (w.setCells g o vs)
  | [], o, w, cur, hg, _ => ⟨cur, hg, rfl, fun _ _ => rfl, fun j hj => absurd hj (by simp), OnlyS.refl _ _⟩
  | v :: r, o, w, cur, hg, hl => by
    have h1 := heap_setCell_same w g o cur E v hg
    obtain ⟨cur', e1, e2, e3, e4, e5⟩ := row_setCellsG g r (o + 1) (w.setCell ⟨g, o, none⟩ v) (cur.setIfInBounds o v) h1 (by simp only [List.length_cons] at hl; rw [Array.size_setIfInBounds]; omega)
    refine ⟨cur', e1, by rw [e2, Array.size_setIfInBounds], fun k hk => ?_, fun j hj => ?_, ((OnlyS.refl [g] w).setCell (by simp) v).trans e5⟩
    · simp only [List.length_cons] at hk
      rw [e3 k (by omega), Array.getElem?_setIfInBounds, if_neg (by omega)]
    · cases j with
      | zero =>
        rw [Nat.add_zero, e3 o (by omega), Array.getElem?_setIfInBounds, if_pos rfl]
        simp only [List.length_cons] at hl
        rw [if_pos (by omega)]; rfl
      | succ j =>
        have := e4 j (by simpa using hj)
        rw [show o + (j + 1) = o + 1 + j by omega, this]; rfl
section
variable {E : TypeId} {s : Nat} {w : World} {g off n cap : Nat} {xs : List Value}
theorem IsRw.row (h : IsRw E s w g (.slice (some ⟨g, off, none⟩) n cap) n xs) : xs.length = n * s ∧ ∃ cur, w.heap[g]? = some (.cells cur E (0, 0)) ∧ n ≤ cap ∧ off + cap * s ≤ cur.size ∧ ∀ j (hj : j < xs.length), cur[off + j]? = some xs[j] := by
  obtain ⟨hl, h⟩ := h
  refine ⟨hl, ?_⟩
  rcases h with ⟨_, h1⟩ | ⟨off2, cap2, cur, h1, h2, h3, h4, h5⟩
  · cases h1
  · obtain ⟨rfl, rfl⟩ : off = off2 ∧ cap = cap2 := by simpa using h1
    exact ⟨cur, h2, h3, h4, h5⟩
theorem IsRw.mk (hl : xs.length = n * s) (cur : Array Value) (h2 : w.heap[g]? = some (.cells cur E (0, 0))) (h3 : n ≤ cap) (h4 : off + cap * s ≤ cur.size) (h5 : ∀ j (hj : j < xs.length), cur[off + j]? = some xs[j]) : IsRw E s w g (.slice (some ⟨g, off, none⟩) n cap) n xs :=
  ⟨hl, .inr ⟨off, cap, cur, rfl, h2, h3, h4, h5⟩⟩
/-- The elements from i to j left out, in place. -/
theorem IsRw.del {T : TypeId} {i0 : TypeInfo} (ht : Try.prog.underlying T = some (.slice E)) (hi : Try.prog.info? E = some i0) (hs : i0.size = s)
    (h : IsRw E s w g (.slice (some ⟨g, off, none⟩) n cap) n xs) (h1 : ∀ u ∈ xs, u.oneCell' = true) (i j : Nat) (hij : i ≤ j) (hj : j ≤ n) (aj : Option Addr) (haj : aj = if cap = j then some ⟨g, off, none⟩ else some ⟨g, off + j * s, none⟩) :
    ∃ w', (∀ ty, (Builtin.append_ #[T, T] ty #[.slice (some ⟨g, off, none⟩) i cap, .slice aj (n - j) (cap - j)]).run Try.prog w = .ok (.slice (some ⟨g, off, none⟩) (i + (n - j)) cap) w') ∧
      IsRw E s w' g (.slice (some ⟨g, off, none⟩) (i + (n - j)) cap) (i + (n - j)) (xs.take (i * s) ++ xs.drop (j * s)) ∧ OnlyS [g] w w' := by
  obtain ⟨hl, cur, hg, hnc, hfit, hat⟩ := h.row
  have hjs : j * s ≤ n * s := Nat.mul_le_mul_right s hj
  have his : i * s ≤ j * s := Nat.mul_le_mul_right s hij
  have hcs : n * s ≤ cap * s := Nat.mul_le_mul_right s hnc
  have hms : (n - j) * s = n * s - j * s := Nat.sub_mul _ _ _
  have hnl : (xs.drop (j * s)).length = (n - j) * s := by rw [List.length_drop, hl, hms]
  have hone : ∀ u ∈ xs.drop (j * s), u.oneCell' = true := fun u hu => h1 u (List.mem_of_mem_drop hu)
  by_cases hm : n - j = 0
  · have hjn : j = n := by omega
    have hd : xs.drop (j * s) = [] := List.eq_nil_of_length_eq_zero (by rw [hnl, hm, Nat.zero_mul])
    have src : Src Try.prog i0.size T (.slice aj (n - j) (cap - j)) 0 [] w := by
      rw [haj, hm]
      split
      · exact Src.ofSlice w ht _ 0 _ [] (by simp) (fun k u hu => by simp at hu) (by simp)
      · exact Src.ofSlice w ht _ 0 _ [] (by simp) (fun k u hu => by simp at hu) (by simp)
    refine ⟨w, fun ty => ?_, ?_, OnlyS.refl _ _⟩
    · rw [hm, Nat.add_zero]
      have := run_append_nothing w T T ty E i0 ht hi (some ⟨g, off, none⟩) i cap (by omega) (.slice aj (n - j) (cap - j)) src
      rw [hm] at this
      exact this
    · rw [hd, List.append_nil, hm, Nat.add_zero]
      exact IsRw.mk (by rw [List.length_take, hl]; omega) cur hg (by omega) hfit (fun k hk => by
        rw [List.length_take] at hk
        rw [hat k (by omega), List.getElem_take])
  · have hjc : ¬ cap = j := by omega
    rw [if_neg hjc] at haj
    subst haj
    have src : Src Try.prog i0.size T (.slice (some ⟨g, off + j * s, none⟩) (n - j) (cap - j)) (n - j) (xs.drop (j * s)) w := by
      refine Src.ofSlice w ht _ _ _ _ (by rw [hs]; exact hnl) (fun k u hu => ?_) hone
      rw [add_off, cell_of_row w g _ cur E (0, 0) hg]
      have hk : k < (xs.drop (j * s)).length := by
        rcases Nat.lt_or_ge k (xs.drop (j * s)).length with h | h
        · exact h
        · rw [List.getElem?_eq_none h] at hu; cases hu
      rw [List.getElem?_eq_getElem hk, List.getElem_drop] at hu
      rw [Nat.add_assoc, hat (j * s + k) (by rw [List.length_drop] at hk; omega)]
      exact hu
    have hroom : i + (n - j) ≤ cap := by omega
    have hmul : (i + (n - j)) * s ≤ cap * s := Nat.mul_le_mul_right s hroom
    rw [Nat.add_mul] at hmul
    have hc : cur.toList.length = cur.size := Array.length_toList
    refine ⟨_, fun ty => run_append_room_rows w T T ty E i0 s ht hi hs g off i cap _ (n - j) _ src hroom cur E hg hfit, ?_, (OnlyS.refl _ _).setRow (by simp) _⟩
    refine IsRw.mk (by rw [List.length_append, List.length_take, hnl, hl, Nat.add_mul]; omega) _ (setRow_heap _ _ cur _ E (0, 0) hg) hroom ?_ ?_
    · rw [List.size_toArray, List.length_append, List.length_append, hnl, List.length_take, List.length_drop, hc]; omega
    · intro k hk
      have ht2 : (cur.toList.take (off + i * s)).length = off + i * s := by rw [List.length_take, hc]; omega
      have ht3 : (xs.take (i * s)).length = i * s := by rw [List.length_take, hl]; omega
      rw [List.length_append, ht3] at hk
      rw [List.getElem?_toArray, List.append_assoc]
      by_cases hki : k < i * s
      · rw [List.getElem?_append_left (by rw [ht2]; omega), List.getElem?_take, if_pos (by omega), Array.getElem?_toList, hat k (by omega), List.getElem_append_left (by rw [ht3]; exact hki), List.getElem_take]
      · rw [List.getElem?_append_right (by rw [ht2]; omega), ht2, List.getElem?_append_left (by omega), List.getElem?_eq_getElem (by omega), List.getElem_append_right (by rw [ht3]; omega)]
        simp only [ht3, show off + k - (off + i * s) = k - i * s by omega]
theorem run_clear_rows (t e ty : TypeId) (z : Value) (ht : Try.prog.underlying t = some (.slice e)) (hv : ∀ u, (zeroValue e).run Try.prog u = .ok z u) (hz : z.cells.size = s) (h1 : ∀ u ∈ z.cells.toList, u.oneCell' = true) (b o m c : Nat) (hm : 0 < m)
    (hc : ∀ j, j < m * s → (w.cell? ⟨b, o + j, none⟩).isSome = true) (hf : ∀ j, j < m * s → w.frozen? ⟨b, o + j, none⟩ = false) :
    (Builtin.clear_ #[t] ty #[.slice (some ⟨b, o, none⟩) m c]).run Try.prog w = .ok (.tuple #[]) (w.setCells b o (Builtin.zeroCells z.cells m).toList) := by
  have hl : (Builtin.zeroCells z.cells m).toList.length = m * s := by rw [Array.length_toList, size_zeroCells, hz]
  have hone : ∀ u ∈ (Builtin.zeroCells z.cells m).toList, u.oneCell' = true := by
    intro u hu
    unfold Builtin.zeroCells at hu
    rw [Array.toList_map, List.mem_map] at hu
    obtain ⟨k, hk, rfl⟩ := hu
    rw [Array.toList_range, List.mem_range] at hk
    have hs0 : 0 < z.cells.size := by
      rcases Nat.eq_zero_or_pos z.cells.size with h | h
      · rw [h] at hk; omega
      · exact h
    rw [getElem!_pos z.cells _ (Nat.mod_lt k hs0)]
    exact h1 _ (Array.getElem_mem_toList _)
  have hst := run_storeCells_cells (P := Try.prog) b o (Builtin.zeroCells z.cells m).toList 0 w (by intro j hj; rw [hl] at hj; simpa using hc j hj) (by intro j hj; rw [hl] at hj; simpa using hf j hj) hone
  simp only [Nat.add_zero] at hst
  obtain ⟨m, rfl⟩ : ∃ k, m = k + 1 := ⟨m - 1, by omega⟩
  simp [Builtin.clear_, run_underlying ht, hv, hst]
/-- What is behind a row's elements, cleared. -/
theorem IsRw.clear {T : TypeId} {z : Value} (ht : Try.prog.underlying T = some (.slice E)) (hv : ∀ u, (zeroValue E).run Try.prog u = .ok z u) (hz : z.cells.size = s) (hz1 : ∀ u ∈ z.cells.toList, u.oneCell' = true)
    (h : IsRw E s w g (.slice (some ⟨g, off, none⟩) n cap) n xs) (m d : Nat) (hm : 0 < m) (hmc : n + m ≤ cap) :
    ∃ w', (∀ ty, (Builtin.clear_ #[T] ty #[.slice (some ⟨g, off + n * s, none⟩) m d]).run Try.prog w = .ok (.tuple #[]) w') ∧ IsRw E s w' g (.slice (some ⟨g, off, none⟩) n cap) n xs ∧ OnlyS [g] w w' := by
  obtain ⟨hl, cur, hg, hnc, hfit, hat⟩ := h.row
  have hmul : (n + m) * s ≤ cap * s := Nat.mul_le_mul_right s hmc
  rw [Nat.add_mul] at hmul
  have hzl : (Builtin.zeroCells z.cells m).toList.length = m * s := by rw [Array.length_toList, size_zeroCells, hz]
  obtain ⟨cur', e1, e2, e3, -, e5⟩ := row_setCellsG g (Builtin.zeroCells z.cells m).toList (off + n * s) w cur hg (by rw [hzl]; omega)
  refine ⟨_, fun ty => run_clear_rows T E ty z ht hv hz hz1 g _ m d hm (fun j hj => ?_) (fun j hj => frozen_of_row w g _ cur E hg), ?_, e5⟩
  · rw [cell_of_row w g _ cur E (0, 0) hg, Array.getElem?_eq_getElem (by omega)]; rfl
  · exact IsRw.mk hl cur' e1 hnc (by rw [e2]; exact hfit) (fun k hk => by rw [e3 (off + k) (by omega)]; exact hat k hk)
end
end Go.Proofs.Ytmdhioifdnaajaa
