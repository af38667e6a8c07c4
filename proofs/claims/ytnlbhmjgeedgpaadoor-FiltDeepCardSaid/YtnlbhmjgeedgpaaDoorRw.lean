/-
  A slice of elements of some cells each, wherever in its block it begins; what append does to it.
-/
import Derived.Test.YtnlbhmjgeedgpaaDoorByt
set_option linter.unusedVariables false
set_option linter.unusedSimpArgs false
namespace Go.Proofs.YtnlbhmjgeedgpaaDoor
open Go.RowKit

/-- Elements in a slice: so many, so many cells each. -/
def IsRw (E : TypeId) (s : Nat) (w : World) (g : Nat) (v : Value) (n : Nat) (xs : List Value) : Prop :=
  xs.length = n * s ∧ ((n = 0 ∧ v = .slice none 0 0) ∨ ∃ off cap cur, v = .slice (some ⟨g, off, none⟩) n cap ∧ w.heap[g]? = some (.cells cur E (0, 0)) ∧ n ≤ cap ∧ off + cap * s ≤ cur.size ∧ ∀ j (hj : j < xs.length), cur[off + j]? = some xs[j])

section
variable {E : TypeId} {s : Nat} {w u : World} {g : Nat} {v : Value} {n : Nat} {xs : List Value}
theorem IsRw.kept (h : IsRw E s w g v n xs) (hg : u.heap[g]? = w.heap[g]?) : IsRw E s u g v n xs := by
  obtain ⟨hl, h⟩ := h
  refine ⟨hl, ?_⟩
  rcases h with h | ⟨off, cap, cur, h1, h2, h3⟩
  · exact .inl h
  · exact .inr ⟨off, cap, cur, h1, hg.trans h2, h3⟩
theorem IsRw.other {S : List Nat} (h : IsRw E s w g v n xs) (ho : OnlyS S w u) (hg : g ∉ S) : IsRw E s u g v n xs := by
  obtain ⟨hl, h⟩ := h
  refine ⟨hl, ?_⟩
  rcases h with h | ⟨off, cap, cur, h1, h2, h3⟩
  · exact .inl h
  · exact .inr ⟨off, cap, cur, h1, (ho.block g (lt_of_block h2) hg).trans h2, h3⟩
theorem IsRw.below (h : IsRw E s w g v n xs) (hb : Below w.heap.size w u) : IsRw E s u g v n xs := by
  obtain ⟨hl, h⟩ := h
  refine ⟨hl, ?_⟩
  rcases h with h | ⟨off, cap, cur, h1, h2, h3⟩
  · exact .inl h
  · exact .inr ⟨off, cap, cur, h1, (hb.block g (lt_of_block h2)).trans h2, h3⟩
theorem IsRw.nil (E : TypeId) (s : Nat) (w : World) (g : Nat) : IsRw E s w g (.slice none 0 0) 0 [] := ⟨by simp, .inl ⟨rfl, rfl⟩⟩
theorem IsRw.form (h : IsRw E s w g v n xs) : ∃ a c, v = .slice a n c := by
  rcases h.2 with ⟨rfl, rfl⟩ | ⟨off, cap, cur, rfl, _⟩ <;> exact ⟨_, _, rfl⟩
/-- Its block is there, or it is none: then any other would do. -/
theorem IsRw.norm (h : IsRw E s w g v n xs) (m : Nat) : g < w.heap.size ∨ IsRw E s w m v n xs := by
  obtain ⟨hl, h⟩ := h
  rcases h with h | ⟨off, cap, cur, h1, h2, h3⟩
  · exact .inr ⟨hl, .inl h⟩
  · exact .inl (lt_of_block h2)
/-- A cell of it. -/
theorem IsRw.cell (h : IsRw E s w g v n xs) (hn : 0 < n) : ∃ off cap, v = .slice (some ⟨g, off, none⟩) n cap ∧ n ≤ cap ∧ g < w.heap.size ∧ ∀ j (hj : j < xs.length), w.cell? ⟨g, off + j, none⟩ = some xs[j] := by
  rcases h.2 with ⟨rfl, rfl⟩ | ⟨off, cap, cur, rfl, h2, h3, h4, h5⟩
  · omega
  · exact ⟨off, cap, rfl, h3, lt_of_block h2, fun j hj => by rw [cell_of_row w g _ cur E (0, 0) h2]; exact h5 j hj⟩
end

section
variable {P : Program}
theorem run_append_room_rows (w : World) (t tx ty e : TypeId) (i : TypeInfo) (s : Nat) (ht : P.underlying t = some (.slice e)) (hi : P.info? e = some i) (hsz : i.size = s) (g off sLen sCap : Nat) (x : Value) (n : Nat) (news : List Value) (hs : Src P i.size tx x n news w)
    (hroom : sLen + n ≤ sCap) (cur : Array Value) (t' : TypeId) (hg : w.heap[g]? = some (.cells cur t' (0, 0))) (hfit : off + sCap * s ≤ cur.size) :
    (Builtin.append_ #[t, tx] ty #[.slice (some ⟨g, off, none⟩) sLen sCap, x]).run P w = .ok (.slice (some ⟨g, off, none⟩) (sLen + n) sCap)
      (w.setRow g (cur.toList.take (off + sLen * s) ++ news ++ cur.toList.drop (off + sLen * s + n * s)).toArray) := by
  have hnl : news.length = n * s := by have := hs.newsLen; rw [hsz] at this; exact this
  have hmul : (sLen + n) * s ≤ sCap * s := Nat.mul_le_mul_right s hroom
  rw [Nat.add_mul] at hmul
  have hst := run_storeCells_at P g (off + sLen * s) t' news 0 cur w hg (by simp [hnl]; omega) hs.one
  rw [hnl] at hst
  simp only [Nat.add_zero] at hst
  have hcs := hs.cells
  rw [hsz] at hcs
  rcases hs.kind with ⟨e', hk⟩ | hk <;> simp [Builtin.append_, run_underlying ht, run_underlying hk, sizeOf, typeInfo, hi, hs.len, hroom, hcs, Addr.add_lit, hsz, hst]

/-- What append of so many elements comes to. -/
theorem rw_append {E T tx : TypeId} {s by' : Nat} {i : TypeInfo} {z : Value} (ht : P.underlying T = some (.slice E)) (hi : P.info? E = some i) (hz : i.zero = some z) (hs : i.size = s) (hby : i.bytes = by') (hzs : z.cells.size = s)
    {w : World} {g : Nat} {v : Value} {n : Nat} {xs : List Value} (h : IsRw E s w g v n xs) (h1 : ∀ u ∈ xs, u.oneCell' = true) (x : Value) (m : Nat) (news : List Value) (src : Src P i.size tx x m news w) (hfit : (n + m) * by' ≤ 140737488355328) (h63 : n + m ≤ 4611686018427387904) :
    ∃ v' w' g', (∀ ty, (Builtin.append_ #[T, tx] ty #[v, x]).run P w = .ok v' w') ∧ IsRw E s w' g' v' (n + m) (xs ++ news) ∧ (g' = g ∨ g' = w.heap.size) ∧ OnlyS [g] w w' := by
  have hnl : news.length = m * s := by have := src.newsLen; rw [hs] at this; exact this
  have hxl := h.1
  by_cases h0 : m = 0
  · subst h0
    have hn0 : news = [] := List.eq_nil_of_length_eq_zero (by omega)
    subst hn0
    obtain ⟨a, c, rfl⟩ := h.form
    have hle : n ≤ c := by
      rcases h.2 with ⟨h1, h2⟩ | ⟨off, cap, cur, h1, h2, h3, _⟩
      · cases h2; exact Nat.le_refl _
      · cases h1; exact h3
    exact ⟨_, w, g, fun ty => run_append_nothing w T tx ty E i ht hi a n c hle x src, by simpa using h, .inl rfl, OnlyS.refl _ _⟩
  · by_cases hroom : ∃ off cap cur, v = .slice (some ⟨g, off, none⟩) n cap ∧ w.heap[g]? = some (.cells cur E (0, 0)) ∧ n + m ≤ cap ∧ off + cap * s ≤ cur.size ∧ ∀ j (hj : j < xs.length), cur[off + j]? = some xs[j]
    · obtain ⟨off, cap, cur, rfl, h2, h3, h4, h5⟩ := hroom
      have hmul : (n + m) * s ≤ cap * s := Nat.mul_le_mul_right s h3
      rw [Nat.add_mul] at hmul
      have hc : cur.toList.length = cur.size := Array.length_toList
      refine ⟨_, _, g, fun ty => run_append_room_rows w T tx ty E i s ht hi hs g off n cap x m news src h3 cur E h2 h4, ?_, .inl rfl, (OnlyS.refl _ _).setRow (by simp) _⟩
      refine ⟨by rw [List.length_append, hxl, hnl, Nat.add_mul], .inr ⟨off, cap, _, rfl, setRow_heap _ _ cur _ E (0, 0) h2, h3, ?_, ?_⟩⟩
      · rw [List.size_toArray, List.length_append, List.length_append, List.length_take, List.length_drop, hnl, hc]; omega
      · intro j hj
        have ht2 : (cur.toList.take (off + n * s)).length = off + n * s := by rw [List.length_take, hc]; omega
        rw [List.getElem?_toArray, List.append_assoc]
        by_cases hjl : j < xs.length
        · rw [List.getElem?_append_left (by rw [ht2]; omega), List.getElem?_take, if_pos (by omega), Array.getElem?_toList, h5 j hjl]
          simp [List.getElem_append_left hjl]
        · rw [List.getElem?_append_right (by rw [ht2]; omega), ht2]
          have hj2 : off + j - (off + n * s) < news.length := by rw [List.length_append] at hj; omega
          rw [List.getElem?_append_left hj2]
          have e : off + j - (off + n * s) = j - xs.length := by omega
          rw [List.getElem?_eq_getElem hj2, List.getElem_append_right (by omega)]
          simp only [e]
    · have hgrow : ∀ (base : Option Addr) (cap : Nat), (Builtin.firstCells i.size n (.slice base n cap)).run P w.drew = .ok xs.toArray w.drew → cap < n + m →
          ∃ v' w' g', (∀ ty, (Builtin.append_ #[T, tx] ty #[.slice base n cap, x]).run P w = .ok v' w') ∧ IsRw E s w' g' v' (n + m) (xs ++ news) ∧ (g' = g ∨ g' = w.heap.size) ∧ OnlyS [g] w w' := by
        intro base cap hold hcap
        have hcc := grownCap_ge w (n + m) cap E
        refine ⟨_, _, w.heap.size, fun ty => run_append_grow_src w T tx ty E i z ht hi hz base n cap xs hold x m news src hcap (by omega) (growslice_fits hcap (by rw [hby]; exact hfit)), ?_, .inr rfl, (OnlyS.refl _ _).drew.alloc _⟩
        refine ⟨by rw [List.length_append, hxl, hnl, Nat.add_mul], .inr ⟨0, _, _, rfl, heap_alloc_new _ _, hcc, ?_, ?_⟩⟩
        · rw [Array.size_append, size_zeroCells, List.size_toArray, List.length_append, hxl, hnl, hzs, Nat.zero_add, ← Nat.add_mul, ← Nat.add_mul]
          exact Nat.mul_le_mul_right s (by omega)
        · intro j hj
          rw [Nat.zero_add, Array.getElem?_append_left (by rw [List.size_toArray]; exact hj)]
          rw [List.getElem?_toArray, List.getElem?_eq_getElem hj]
      rcases h.2 with ⟨rfl, rfl⟩ | ⟨off, cap, cur, rfl, h2, h3, h4, h5⟩
      · have : xs = [] := List.eq_nil_of_length_eq_zero (by omega)
        subst this
        exact hgrow none 0 (run_firstCells_none w.drew i.size 0 0 0) (by omega)
      · refine hgrow _ cap (run_firstCells_some w.drew i.size n ⟨g, off, none⟩ n cap xs (by rw [hs]; exact hxl) ?_) ?_
        · intro j u hu
          have hj : j < xs.length := by
            rcases Nat.lt_or_ge j xs.length with h | h
            · exact h
            · rw [List.getElem?_eq_none h] at hu; cases hu
          rw [List.getElem?_eq_getElem hj] at hu
          cases hu
          rw [add_off, World.cell?_drew, cell_of_row w g _ cur E (0, 0) h2]
          exact h5 j hj
        · exact Nat.lt_of_not_le fun hle => hroom ⟨off, cap, cur, rfl, h2, hle, h4, h5⟩
end
end Go.Proofs.YtnlbhmjgeedgpaaDoor
