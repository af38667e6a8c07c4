/-
  A slice of a call's own, elements of any size: one more behind it; bytes of it as a text.
-/
import Derived.Test.YtnlbhmjgeedgpaaDoorRw
import Derived.Deep.RegionLaw
set_option linter.unusedVariables false
set_option linter.unusedSimpArgs false
namespace Go.Proofs.YtnlbhmjgeedgpaaDoor
open Go.RowKit

theorem step_append_eq {P : Program} {ops : Array Oper} {o : Oper} {a : Act} {w : World} {K : Act → World → Prop} {Q : Exit → Act → World → Prop} {E : Prop}
    (hg : o.guard = none) (s x : Operand) (t t' : TypeId) (hop : o.op = Op.call { callee := Callee.builtin Builtin.append, args := #[s, x], argTypes := #[t, t'] })
    (v u : Value) (hs : a.eval s = v) (hx : a.eval x = u) {v' : Value} {w' : World} (hr : ∀ ty, (Builtin.append_ #[t, t'] ty #[v, u]).run P w = .ok v' w')
    (hK : K (a.put o.dst v') w') : if Region.wanted o (yielded ops a.tmps) = true then Oper.wp P o a w K Q else E := by
  have hw : Region.wanted o (yielded ops a.tmps) = true := by simp [Region.wanted, hg]
  rw [if_pos hw]
  unfold Oper.wp
  simp [execOp, hop, resolve, invoke, builtin, hs, hx, hr, Result.andThen]
  exact hK

/-- A slice whose block came behind a place. -/
def IsOwn (E : TypeId) (s base : Nat) (w : World) (v : Value) (n : Nat) (xs : List Value) : Prop := ∃ g, base ≤ g ∧ IsRw E s w g v n xs
section
variable {E : TypeId} {s base : Nat} {w u : World} {v : Value} {n : Nat} {xs : List Value}
theorem IsOwn.nil (E : TypeId) (s base : Nat) (w : World) : IsOwn E s base w (.slice none 0 0) 0 [] := ⟨base, Nat.le_refl _, IsRw.nil _ _ _ _⟩
theorem IsOwn.below (h : IsOwn E s base w v n xs) (hb : Below w.heap.size w u) : IsOwn E s base u v n xs := by
  obtain ⟨g, hg, h⟩ := h
  exact ⟨g, hg, h.below hb⟩
theorem IsOwn.mono (h : IsOwn E s base w v n xs) {b2 : Nat} (hb : b2 ≤ base) : IsOwn E s b2 w v n xs := by
  obtain ⟨g, hg, h⟩ := h
  exact ⟨g, by omega, h⟩
theorem IsOwn.form (h : IsOwn E s base w v n xs) : ∃ a c, v = .slice a n c := by
  obtain ⟨g, _, h⟩ := h
  exact h.form
theorem IsOwn.len (h : IsOwn E s base w v n xs) : xs.length = n * s := by
  obtain ⟨g, _, h⟩ := h
  exact h.1
theorem own_push {T tx : TypeId} {by' : Nat} {i : TypeInfo} {z : Value} (ht : Tryd.prog.underlying T = some (.slice E)) (htx : Tryd.prog.underlying tx = some (.slice E)) (hi : Tryd.prog.info? E = some i) (hz : i.zero = some z) (hs : i.size = s) (hby : i.bytes = by') (hzs : z.cells.size = s)
    (h : IsOwn E s base w v n xs) (hbase : base ≤ w.heap.size) (h1 : ∀ u ∈ xs, u.oneCell' = true) (cells : Array Value) (hc : cells.size = s) (hc1 : ∀ u ∈ cells.toList, u.oneCell' = true) (hfit : (n + 1) * by' ≤ 140737488355328) (h63 : n + 1 ≤ 4611686018427387904) :
    ∃ a' c' w', (∀ ty, (Builtin.append_ #[T, tx] ty #[v, .slice (some ⟨w.heap.size, 0, none⟩) 1 1]).run Tryd.prog (w.alloc (.cells cells E)) = .ok (.slice a' (n + 1) c') w') ∧ IsOwn E s base w' (.slice a' (n + 1) c') (n + 1) (xs ++ cells.toList) ∧ Below base w w' := by
  obtain ⟨g, hg, h⟩ := h
  obtain ⟨g, hg, h⟩ : ∃ g, base ≤ g ∧ IsRw E s (w.alloc (.cells cells E)) g v n xs := ⟨g, hg, h.below ((Below.refl w.heap.size w).alloc (Nat.le_refl _) (.cells cells E))⟩
  have hbel := (Below.refl w.heap.size w).alloc (Nat.le_refl _) (.cells cells E)
  have src : Src Tryd.prog i.size tx (.slice (some ⟨w.heap.size, 0, none⟩) 1 1) 1 cells.toList (w.alloc (.cells cells E)) :=
    Src.ofSlice _ htx ⟨w.heap.size, 0, none⟩ 1 1 _ (by rw [hs, Array.length_toList, hc, Nat.one_mul]) (fun j u hu => by
      rw [add_off, cell_of_row _ w.heap.size _ _ _ _ (heap_alloc_new w _), Nat.zero_add]
      simpa using hu) hc1
  obtain ⟨v', w', g', hrun, hrw, hg', ho⟩ := rw_append (T := T) (tx := tx) ht hi hz hs hby hzs h h1 _ 1 cells.toList src hfit h63
  obtain ⟨a', c', rfl⟩ := hrw.form
  have hsz : (w.alloc (.cells cells E)).heap.size = w.heap.size + 1 := by simp
  refine ⟨a', c', w', hrun, ⟨g', ?_, hrw⟩, ?_⟩
  · rcases hg' with rfl | rfl
    · exact hg
    · rw [hsz]; omega
  · have h2 := ho.toBelow (D := base) (by simpa using hg) (by rw [hsz]; omega)
    exact (hbel.mono hbase).trans h2
/-- So many elements more, out of a slice that was just made. -/
theorem own_pushN {T tx : TypeId} {by' : Nat} {i : TypeInfo} {z : Value} (ht : Tryd.prog.underlying T = some (.slice E)) (htx : Tryd.prog.underlying tx = some (.slice E)) (hi : Tryd.prog.info? E = some i) (hz : i.zero = some z) (hs : i.size = s) (hby : i.bytes = by') (hzs : z.cells.size = s)
    (h : IsOwn E s base w v n xs) (hbase : base ≤ w.heap.size) (h1 : ∀ u ∈ xs, u.oneCell' = true) (cells : Array Value) (m : Nat) (hc : cells.size = m * s) (hc1 : ∀ u ∈ cells.toList, u.oneCell' = true) (hfit : (n + m) * by' ≤ 140737488355328) (h63 : n + m ≤ 4611686018427387904) :
    ∃ a' c' w', (∀ ty, (Builtin.append_ #[T, tx] ty #[v, .slice (some ⟨w.heap.size, 0, none⟩) m m]).run Tryd.prog (w.alloc (.cells cells E)) = .ok (.slice a' (n + m) c') w') ∧ IsOwn E s base w' (.slice a' (n + m) c') (n + m) (xs ++ cells.toList) ∧ Below base w w' := by
  obtain ⟨g, hg, h⟩ := h
  obtain ⟨g, hg, h⟩ : ∃ g, base ≤ g ∧ IsRw E s (w.alloc (.cells cells E)) g v n xs := ⟨g, hg, h.below ((Below.refl w.heap.size w).alloc (Nat.le_refl _) (.cells cells E))⟩
  have hbel := (Below.refl w.heap.size w).alloc (Nat.le_refl _) (.cells cells E)
  have src : Src Tryd.prog i.size tx (.slice (some ⟨w.heap.size, 0, none⟩) m m) m cells.toList (w.alloc (.cells cells E)) :=
    Src.ofSlice _ htx ⟨w.heap.size, 0, none⟩ m m _ (by rw [hs, Array.length_toList, hc]) (fun j u hu => by
      rw [add_off, cell_of_row _ w.heap.size _ _ _ _ (heap_alloc_new w _), Nat.zero_add]
      simpa using hu) hc1
  obtain ⟨v', w', g', hrun, hrw, hg', ho⟩ := rw_append (T := T) (tx := tx) ht hi hz hs hby hzs h h1 _ m cells.toList src hfit h63
  obtain ⟨a', c', rfl⟩ := hrw.form
  have hsz : (w.alloc (.cells cells E)).heap.size = w.heap.size + 1 := by simp
  refine ⟨a', c', w', hrun, ⟨g', ?_, hrw⟩, ?_⟩
  · rcases hg' with rfl | rfl
    · exact hg
    · rw [hsz]; omega
  · have h2 := ho.toBelow (D := base) (by simpa using hg) (by rw [hsz]; omega)
    exact (hbel.mono hbase).trans h2
end
/-- A text behind bytes. -/
theorem own_text {base : Nat} {w : World} {v : Value} {l : List UInt8} (h : IsOwn 5 1 base w v l.length (Mt.cs l)) (hbase : base ≤ w.heap.size) (s : ByteArray) (hsz : l.length + s.size ≤ 70368744177664) :
    ∃ a' c' w', (∀ ty, (Builtin.append_ #[54, 9] ty #[v, .string s]).run Tryd.prog w = .ok (.slice a' (l.length + s.size) c') w') ∧ IsOwn 5 1 base w' (.slice a' (l.length + s.size) c') (l.length + s.size) (Mt.cs (l ++ s.data.toList)) ∧ Below base w w' := by
  obtain ⟨i0, hi, hz0, hz1, hz2⟩ := info_parts Tryd.infoU8
  obtain ⟨g, hg, h⟩ := h
  have src : Src Tryd.prog i0.size 9 (.string s) s.size (Mt.cs s.data.toList) w := by
    have := Src.ofString (P := Tryd.prog) w Tryd.underlying9 s
    rw [Mt.cs_eq, ← hz1] at this
    exact this
  obtain ⟨v', w', g', hrun, hrw, hg', ho⟩ := rw_append (T := 54) (tx := 9) Tryd.underlying54 hi hz0 hz1 hz2 rfl h (Mt.cs_one _) _ s.size _ src (by omega) (by omega)
  obtain ⟨a', c', rfl⟩ := hrw.form
  refine ⟨a', c', w', hrun, ⟨g', ?_, by rw [Mt.cs_append]; exact hrw⟩, ho.toBelow (by simpa using hg) hbase⟩
  rcases hg' with rfl | rfl
  · exact hg
  · exact hbase
theorem own_conv {base : Nat} {w : World} {v : Value} {l : List UInt8} (h : IsOwn 5 1 base w v l.length (Mt.cs l)) : (convert 54 9 v).run Tryd.prog w = .ok (.string (Mt.str l)) w := by
  obtain ⟨g, _, hl, h⟩ := h
  rcases h with ⟨h0, rfl⟩ | ⟨off, cap, cur, rfl, h2, h3, h4, h5⟩
  · have : l = [] := List.eq_nil_of_length_eq_zero h0
    subst this
    exact run_convert_bytes_nil (P := Tryd.prog) (w := w) 54 5 Tryd.underlying54 Tryd.underlying5 0 0 9 Tryd.underlying9
  · have := byt_text (n := l.length) (cap := cap) h2 (l := l) (fun j hj => by
      have := h5 j (by rw [Mt.cs_length]; exact hj)
      rw [this]; simp [Mt.cs]) (Nat.le_refl _)
    rw [List.take_length] at this
    exact this
end Go.Proofs.YtnlbhmjgeedgpaaDoor
