/-
  Some texts of one proof, one behind the other.
-/
import Derived.Deep.QuietTactic
import Derived.Test.YtngdbhncafnliaaGreatPk0
import Derived.Test.YtngdbhncafnliaaGreatPk6
import Derived.Test.YtngdbhncafnliaaGreatPk22
set_option linter.unusedVariables false
set_option linter.unusedSimpArgs false

/-
  Texts in a slice: joined, sorted.
-/
namespace Go.Proofs.YtngdbhncafnliaaGreat
open Go.RowKit Go.Sort

theorem Tryz.joinX : Builder.Extra Tryz.prog Tryz.joinA_ren where
  sizeBuilder := by kernel_rfl
  liesBuilder := by kernel_rfl
  t5 := Tryz.underlying5
  a5 := Tryz.isAgg5
  z5 := Tryz.sizeOf5
  v5 := Tryz.zeroValue5
  infoByte := by kernel_rfl
  cellsByte := by kernel_rfl
  sizeByte := by kernel_rfl
  neB5 := by decide

/-- Texts in a slice, wherever they lie. -/
def IsTx (w : World) (v : Value) (ls : List (List UInt8)) : Prop :=
  ∃ a cap, v = .slice a ls.length cap ∧ ls.length ≤ cap ∧ (ls = [] ∨ ∃ b off, a = some ⟨b, off, none⟩ ∧ b < w.heap.size ∧ ∀ j (hj : j < ls.length), w.cell? ⟨b, off + j, none⟩ = some (.string (Mt.str ls[j])))
theorem IsTx.below {w u : World} {v : Value} {ls : List (List UInt8)} (h : IsTx w v ls) (hb : Below w.heap.size w u) : IsTx u v ls := by
  obtain ⟨a, cap, h1, h2, h4⟩ := h
  refine ⟨a, cap, h1, h2, ?_⟩
  rcases h4 with h4 | ⟨b, off, h5, h6, h7⟩
  · exact .inl h4
  · exact .inr ⟨b, off, h5, Nat.lt_of_lt_of_le h6 hb.size, fun i hi => (hb.cell (p := ⟨b, off + i, none⟩) h6).trans (h7 i hi)⟩
theorem join_any {w : World} {v : Value} {ls : List (List UInt8)} (h : IsTx w v ls) (sep : List UInt8) (hn : ls.length ≤ 140737488355328) (hl : (sep.intercalate ls).length ≤ 140737488355328) :
    Calls Tryz.prog 58 #[v, .string (Mt.str sep)] w fun e w' => e = .returned (.string (Mt.str (sep.intercalate ls))) ∧ Below w.heap.size w w' := by
  obtain ⟨a, cap, rfl, hc, h4⟩ := h
  rcases h4 with rfl | ⟨b, off, rfl, hb, hcell⟩
  · refine (Any.strings_Join_none Tryz.joinA Tryz.joinX a cap (Mt.str sep) w).mono fun e w' ⟨he, hw⟩ => ⟨by rw [he]; simp [List.intercalate]; rfl, hw ▸ Below.refl _ _⟩
  · have hm : (ls.map Mt.str).map (·.data.toList) = ls := by
      rw [List.map_map]; conv => rhs; rw [← List.map_id ls]
      rfl
    have H := Any.strings_Join Tryz.joinA Tryz.joinX b off cap (ls.map Mt.str) (Mt.str sep) w (fun j x hx => by
      rw [List.getElem?_map] at hx
      cases hj : ls[j]? with
      | none => rw [hj] at hx; cases hx
      | some y =>
        rw [hj] at hx; cases hx
        have hlt : j < ls.length := by
          rcases Nat.lt_or_ge j ls.length with h | h
          · exact h
          · rw [List.getElem?_eq_none h] at hj; cases hj
        rw [hcell j hlt]
        rw [List.getElem?_eq_getElem hlt] at hj; cases hj; rfl) hb (by rw [List.length_map]; exact hn) (by rw [List.length_map]; exact hc) (by rw [hm]; exact hl)
    rw [hm, List.length_map] at H
    exact H

theorem Tryz.infoStr : (Tryz.prog.info? 9).map (fun i => (i.zero, i.size, i.bytes)) = some (some (.string ByteArray.empty), 1, 16) := by kernel_rfl
/-- The cells of texts. -/
def txs (ls : List (List UInt8)) : List Value := ls.map fun l => Value.string (Mt.str l)
theorem txs_length (ls : List (List UInt8)) : (txs ls).length = ls.length := by simp [txs]
theorem txs_append (a b : List (List UInt8)) : txs (a ++ b) = txs a ++ txs b := by simp [txs]
theorem txs_one (ls : List (List UInt8)) : ∀ u ∈ txs ls, u.oneCell' = true := by
  intro u hu
  simp only [txs, List.mem_map] at hu
  obtain ⟨l, _, rfl⟩ := hu
  rfl
theorem IsOwn.tx {base : Nat} {w : World} {v : Value} {ls : List (List UInt8)} (h : IsOwn 9 1 base w v ls.length (txs ls)) : IsTx w v ls := by
  obtain ⟨g, _, hl, h⟩ := h
  rcases h with ⟨h0, rfl⟩ | ⟨off, cap, cur, rfl, h2, h3, h4, h5⟩
  · have : ls = [] := List.eq_nil_of_length_eq_zero h0
    subst this
    exact ⟨none, 0, rfl, by simp, .inl rfl⟩
  · refine ⟨_, cap, rfl, h3, .inr ⟨g, off, rfl, lt_of_block h2, fun j hj => ?_⟩⟩
    rw [cell_of_row w g _ cur 9 (0, 0) h2, h5 j (by rw [txs_length]; exact hj)]
    simp [txs]
theorem below_grow (w : World) (os : Array Obj) : Below w.heap.size w (grow w os) := by
  refine ⟨rfl, rfl, rfl, by simp [grow], fun k hk => ?_⟩
  show (w.heap ++ os)[k]? = _
  rw [Array.getElem?_append_left hk]
theorem sort_any {base : Nat} {w : World} {v : Value} {ls : List (List UInt8)} (h : IsOwn 9 1 base w v ls.length (txs ls)) (hbase : base ≤ w.heap.size) (hn : ls.length < 4611686018427387904) :
    Calls Tryz.prog 61 #[v] w fun e w' => e = .returned (.tuple #[]) ∧ IsTx w' v (ls.mergeSort Mt.leB) ∧ Below base w w' := by
  have hlm : (ls.mergeSort Mt.leB).length = ls.length := List.length_mergeSort _
  obtain ⟨g, hg, hl, h⟩ := h
  rcases h with ⟨h0, rfl⟩ | ⟨off, cap, cur, rfl, h2, h3, h4, h5⟩
  · have : ls = [] := List.eq_nil_of_length_eq_zero h0
    subst this
    refine (AnyM.slices_Sort_string_none Tryz.sortA none 0 w).mono fun e w' ⟨he, hw⟩ => ⟨he, ?_, hw ▸ Below.refl _ _⟩
    exact ⟨none, 0, by simp, by simp, .inl (by simp)⟩
  · have hlt := lt_of_block h2
    have hH : Holds encStr w g off ls.toArray := by
      intro j hj
      have hj2 : j < ls.length := by simpa using hj
      refine ⟨?_, by simp [World.frozen?, h2]⟩
      rw [cell_of_row w g _ cur 9 (0, 0) h2, h5 j (by rw [txs_length]; exact hj2)]
      simp [txs, getElem!_pos, hj2]; rfl
    refine (AnyM.slices_Sort_string Tryz.sortA g off cap ls w hH hlt hn).mono fun e w' ⟨he, n, os, hw⟩ => ⟨he, ?_, ?_⟩
    · have hsz : (putRow encStr (Sort.ahead w n) g off (ls.mergeSort fun x y => decide (x ≤ y)).toArray).heap.size = w.heap.size := by simp [putRow, mapBlock, Sort.ahead]
      refine ⟨_, cap, by rw [hlm], by rw [hlm]; exact h3, .inr ⟨g, off, rfl, by rw [hw]; simp [grow]; omega, fun j hj => ?_⟩⟩
      have hb := below_grow (putRow encStr (Sort.ahead w n) g off (ls.mergeSort fun x y => decide (x ≤ y)).toArray) os
      rw [hw, hb.cell (p := ⟨g, off + j, none⟩) (by rw [hsz]; exact hlt)]
      have hHa : Holds encStr (Sort.ahead w n) g off ls.toArray := hH
      have := cell?_putRow encStr (Sort.ahead w n) g off ls.toArray (ls.mergeSort fun x y => decide (x ≤ y)).toArray hHa (by simp) j (by simpa using hj)
      rw [this]
      have e : (ls.mergeSort fun x y => decide (x ≤ y)) = ls.mergeSort Mt.leB := rfl
      rw [e, getElem!_pos _ _ (by simpa using hj)]
      simp; rfl
    · rw [hw]
      have hb1 : Below base w (putRow encStr (Sort.ahead w n) g off (ls.mergeSort fun x y => decide (x ≤ y)).toArray) := by
        refine ⟨rfl, rfl, rfl, by simp [putRow, mapBlock, Sort.ahead], fun k hk => ?_⟩
        simp only [putRow, mapBlock, Sort.ahead, Array.getElem?_modify]
        rw [if_neg (by omega)]
      exact hb1.trans ((below_grow _ os).mono (by simp [putRow, mapBlock, Sort.ahead]; omega))
end Go.Proofs.YtngdbhncafnliaaGreat
