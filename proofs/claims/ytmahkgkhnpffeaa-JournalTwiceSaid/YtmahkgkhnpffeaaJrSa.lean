/-
  A row of cells, as it lies in memory.
-/
import Derived.Test.YtmahkgkhnpffeaaJrR
namespace Go.Proofs.Ytmahkgkhnpffeaa
open Go.RowKit
/-- The cells of a row. -/
def ccs (l : List Mt.Cl) : List Value := (l.map fun c => (clV c).toList).flatten
theorem ccs_cons (c : Mt.Cl) (l : List Mt.Cl) : ccs (c :: l) = (clV c).toList ++ ccs l := by simp [ccs]
theorem ccs_append (a b : List Mt.Cl) : ccs (a ++ b) = ccs a ++ ccs b := by simp [ccs]
theorem ccs_length : ∀ l : List Mt.Cl, (ccs l).length = l.length * 5
  | [] => rfl
  | c :: r => by rw [ccs_cons, List.length_append, ccs_length r, List.length_cons]; simp [clV]; omega
theorem ccs_get (l : List Mt.Cl) (k : Nat) (h : k < l.length) : ccs l = ccs (l.take k) ++ ((clV l[k]).toList ++ ccs (l.drop (k + 1))) := by
  rw [← ccs_cons, ← ccs_append]
  congr 1
  rw [← List.drop_eq_getElem_cons h, List.take_append_drop]
theorem set5 (A B : List Value) (x0 x1 x2 x3 x4 v0 v1 v2 v3 v4 : Value) (n : Nat) (hn : A.length = n) :
    (((((A ++ ([x0, x1, x2, x3, x4] ++ B)).set n v0).set (n + 1) v1).set (n + 2) v2).set (n + 3) v3).set (n + 4) v4 = A ++ ([v0, v1, v2, v3, v4] ++ B) := by
  subst hn
  rw [List.set_append_right _ _ (Nat.le_refl _), Nat.sub_self, List.set_append_right _ _ (by omega), List.set_append_right _ _ (by omega), List.set_append_right _ _ (by omega), List.set_append_right _ _ (by omega)]
  simp only [Nat.add_sub_cancel_left]
  rfl
theorem row_set (l : List Mt.Cl) (k : Nat) (h : k < l.length) (c : Mt.Cl) :
    ((((((ccs l).toArray.setIfInBounds (k * 5) (.int .u64 (c.gen : Int))).setIfInBounds (k * 5 + 1) (.int .u64 (c.number : Int))).setIfInBounds (k * 5 + 2) (.int .i64 (c.part : Int))).setIfInBounds (k * 5 + 3) (.int .i64 (c.parts : Int))).setIfInBounds (k * 5 + 4) (.string (Mt.str c.body))) = (ccs (l.set k c)).toArray := by
  apply Array.ext'
  simp only [Array.toList_setIfInBounds]
  rw [ccs_get l k h]
  have hl : (ccs (l.take k)).length = k * 5 := by rw [ccs_length, List.length_take]; congr 1; omega
  have e : (clV l[k]).toList = [.int .u64 ((l[k]).gen : Int), .int .u64 ((l[k]).number : Int), .int .i64 ((l[k]).part : Int), .int .i64 ((l[k]).parts : Int), .string (Mt.str (l[k]).body)] := rfl
  rw [e, set5 _ _ _ _ _ _ _ _ _ _ _ _ _ hl, List.set_eq_take_append_cons_drop, if_pos h, ccs_append, ccs_cons]
  rfl
theorem cellAt_row {w : World} {g : Nat} {l : List Mt.Cl} (h : w.heap[g]? = some (.cells (ccs l).toArray 65 (0, 0))) (k : Nat) (hk : k < l.length) : CellAt w g (k * 5) l[k] := by
  have hl : (ccs (l.take k)).length = k * 5 := by rw [ccs_length, List.length_take]; congr 1; omega
  have hg : ∀ i v, (clV l[k]).toList[i]? = some v → w.cell? ⟨g, k * 5 + i, none⟩ = some v := fun i v hv => by
    rw [cell_of_row _ _ _ _ _ _ h, List.getElem?_toArray, ccs_get l k hk, List.getElem?_append_right (by omega), hl, Nat.add_sub_cancel_left]
    have : i < (clV l[k]).toList.length := by
      rcases Nat.lt_or_ge i (clV l[k]).toList.length with h | h
      · exact h
      · rw [List.getElem?_eq_none h] at hv; cases hv
    rw [List.getElem?_append_left this]
    exact hv
  exact ⟨hg 0 _ rfl, hg 1 _ rfl, hg 2 _ rfl, hg 3 _ rfl, hg 4 _ rfl⟩
theorem isCls_row {w : World} {g n : Nat} {l : List Mt.Cl} (hn : l.length = n) (h : w.heap[g]? = some (.cells (ccs l).toArray 65 (0, 0))) : IsCls w (.slice (some ⟨g, 0, none⟩) n n) l := by
  subst hn
  exact ⟨some ⟨g, 0, none⟩, l.length, rfl, Nat.le_refl _, .inr ⟨g, 0, rfl, lt_of_block h, fun j hj => by rw [Nat.zero_add]; exact cellAt_row h j hj⟩⟩
/-- A part of a row. -/
theorem isCls_part {w : World} {g n : Nat} {l : List Mt.Cl} (hn : l.length = n) (h : w.heap[g]? = some (.cells (ccs l).toArray 65 (0, 0))) (a b cap : Nat) (hab : a + b ≤ n) (hc : b ≤ cap) : IsCls w (.slice (some ⟨g, a * 5, none⟩) b cap) ((l.drop a).take b) := by
  have hl : ((l.drop a).take b).length = b := by rw [List.length_take, List.length_drop]; omega
  refine ⟨some ⟨g, a * 5, none⟩, cap, by rw [hl], by omega, .inr ⟨g, a * 5, rfl, lt_of_block h, fun j hj => ?_⟩⟩
  have := cellAt_row h (a + j) (by omega)
  rw [show a * 5 + j * 5 = (a + j) * 5 by omega, List.getElem_take, List.getElem_drop]
  exact this
theorem Try.infoCl : (Try.prog.info? 65).map (fun i => (i.zero, i.size, i.bytes)) = some (some (.agg zcV), 5, 48) := by kernel_rfl
theorem ccs_zero : ∀ n : Nat, ccs (List.replicate n Mt.Cl.zero) = (List.replicate n (zcV.toList)).flatten
  | 0 => rfl
  | n + 1 => by rw [List.replicate_succ, ccs_cons, ccs_zero n]; rfl
theorem zero_row (n i : Nat) (hi : i < n * 5) : (ccs (List.replicate n Mt.Cl.zero))[i]? = zcV[i % 5]? := by
  have hk : i / 5 < (List.replicate n Mt.Cl.zero).length := by rw [List.length_replicate]; omega
  have hl : (ccs ((List.replicate n Mt.Cl.zero).take (i / 5))).length = i / 5 * 5 := by rw [ccs_length, List.length_take]; congr 1; omega
  rw [ccs_get (List.replicate n Mt.Cl.zero) (i / 5) hk, List.getElem?_append_right (by omega), hl, List.getElem?_append_left (by simp [clV]; omega)]
  rw [show i - i / 5 * 5 = i % 5 by omega]
  simp only [List.getElem_replicate]
  show zcV.toList[i % 5]? = _
  rw [Array.getElem?_toList]
theorem made_cells (n : Nat) : madeCells (Value.agg zcV).cells (n * 5) = (ccs (List.replicate n Mt.Cl.zero)).toArray := by
  apply Array.ext_getElem?
  intro i
  have hs : (Value.agg zcV).cells = zcV := rfl
  have e2 : (ccs (List.replicate n Mt.Cl.zero)).toArray[i]? = (ccs (List.replicate n Mt.Cl.zero))[i]? := by simp
  rw [e2]
  by_cases hi : i < n * 5
  · rw [zero_row n i hi, hs]
    have h5 : i % 5 < zcV.size := Nat.mod_lt _ (by decide)
    unfold madeCells
    rw [Array.getElem?_map, Array.getElem?_range, if_pos hi, Option.map_some, Array.getElem?_eq_getElem h5]
    congr 1
    exact getElem!_pos zcV (i % 5) h5
  · rw [List.getElem?_eq_none (by rw [ccs_length, List.length_replicate]; omega), Array.getElem?_eq_none]
    unfold madeCells
    simp; omega
theorem make_cls (k : Nat) (hk : k ≤ 100000) (w : World) : (Instr.makeSlice 63 (.int .i64 (k : Int)) (.int .i64 (k : Int))).run Try.prog w = .ok (.slice (some ⟨w.heap.size, 0, none⟩) k k) (w.alloc (.cells (ccs (List.replicate k Mt.Cl.zero)).toArray 65)) := by
  obtain ⟨i, hi, hz, hs, hb⟩ := info_parts Try.infoCl
  have h := run_make (P := Try.prog) w 63 65 i _ Try.underlying63 hi hz .i64 .i64 (k : Int) (k : Int) (by omega) (Int.le_refl _) (by rw [hb]; omega) (by omega)
  rw [Int.toNat_natCast, hs, made_cells] at h
  exact h
end Go.Proofs.Ytmahkgkhnpffeaa

/-
  What find goes through: a row of cells, sector by sector.
-/
namespace Go.Proofs.Ytmahkgkhnpffeaa
open Go.RowKit
/-- The row behind k sectors. -/
def Mt.hlRow (d : Mt.Dk) (N k : Nat) : List Mt.Cl := [Mt.Cl.zero, Mt.Cl.zero] ++ (d.cellsFrom 2 (k - 2) ++ List.replicate (N - k) Mt.Cl.zero)
theorem Mt.cellsFrom_length (d : Mt.Dk) (a n : Nat) : (d.cellsFrom a n).length = n := by simp [Mt.Dk.cellsFrom]
theorem Mt.hlRow_length (d : Mt.Dk) (N k : Nat) (h2 : 2 ≤ k) (hk : k ≤ N) : (Mt.hlRow d N k).length = N := by
  unfold Mt.hlRow
  simp only [List.length_append, Mt.cellsFrom_length, List.length_replicate, List.length_cons, List.length_nil]
  omega
theorem Mt.hlRow_two (d : Mt.Dk) (N : Nat) (h : 2 ≤ N) : Mt.hlRow d N 2 = List.replicate N Mt.Cl.zero := by
  unfold Mt.hlRow Mt.Dk.cellsFrom
  obtain ⟨m, rfl⟩ : ∃ m, N = m + 2 := ⟨N - 2, by omega⟩
  rw [List.replicate_succ, List.replicate_succ]
  simp
theorem Mt.cellsFrom_snoc (d : Mt.Dk) (a n : Nat) : d.cellsFrom a (n + 1) = d.cellsFrom a n ++ [Mt.rdCell (d.sec (a + n))] := by
  unfold Mt.Dk.cellsFrom
  rw [List.range_succ, List.map_append]; rfl
theorem Mt.hlRow_set (d : Mt.Dk) (N k : Nat) (h2 : 2 ≤ k) (hk : k < N) : (Mt.hlRow d N k).set k (Mt.rdCell (d.sec k)) = Mt.hlRow d N (k + 1) := by
  unfold Mt.hlRow
  have e : N - k = (N - (k + 1)) + 1 := by omega
  have e2 : k + 1 - 2 = (k - 2) + 1 := by omega
  have hl := Mt.cellsFrom_length d 2 (k - 2)
  rw [List.set_append_right _ _ (by simpa using h2), List.length_cons, List.length_cons, List.length_nil, List.set_append_right _ _ (by rw [hl]; omega), hl, show k - (0 + 1 + 1) - (k - 2) = 0 by omega, e, List.replicate_succ, List.set_cons_zero, e2, Mt.cellsFrom_snoc, show 2 + (k - 2) = k by omega]
  simp
theorem Mt.hlRow_full (d : Mt.Dk) (N : Nat) : Mt.hlRow d N N = [Mt.Cl.zero, Mt.Cl.zero] ++ d.cellsFrom 2 (N - 2) := by
  unfold Mt.hlRow
  simp
theorem Mt.greatest_row (d : Mt.Dk) (N a b : Nat) : Mt.greatest (Mt.hlRow d N N) a b = Mt.greatest (d.cellsFrom 2 (N - 2)) a b := by
  rw [Mt.hlRow_full]
  simp [Mt.greatest, Mt.Cl.zero]
theorem Mt.part_row (d : Mt.Dk) (z h : Nat) (hh : h ≤ 1) : ((Mt.hlRow d (2 + 2 * z) (2 + 2 * z)).drop (2 + h * z)).take z = d.cellsFrom (2 + h * z) z := by
  have hlen : h * z + z ≤ 2 * z := by
    have : h = 0 ∨ h = 1 := by omega
    rcases this with rfl | rfl <;> omega
  rw [Mt.hlRow_full, show 2 + 2 * z - 2 = 2 * z by omega, ← List.drop_drop]
  have e : ([Mt.Cl.zero, Mt.Cl.zero] ++ d.cellsFrom 2 (2 * z)).drop 2 = d.cellsFrom 2 (2 * z) := rfl
  rw [e]
  apply List.ext_getElem
  · rw [List.length_take, List.length_drop, Mt.cellsFrom_length, Mt.cellsFrom_length]; omega
  · intro i h1 h2
    rw [List.getElem_take, List.getElem_drop]
    simp only [Mt.Dk.cellsFrom, List.getElem_map, List.getElem_range]
    rw [show 2 + (h * z + i) = 2 + h * z + i by omega]
theorem Mt.row_body (d : Mt.Dk) (a n : Nat) : ∀ c ∈ d.cellsFrom a n, c.body.length ≤ 110 := by
  intro c hc
  unfold Mt.Dk.cellsFrom at hc
  rw [List.mem_map] at hc
  obtain ⟨i, _, rfl⟩ := hc
  unfold Mt.rdCell
  split
  · rename_i h
    show ((List.drop 18 _).take _).length ≤ 110
    rw [List.length_take]
    have := h.2.2.1
    omega
  · show (0 : Nat) ≤ 110; omega
end Go.Proofs.Ytmahkgkhnpffeaa
