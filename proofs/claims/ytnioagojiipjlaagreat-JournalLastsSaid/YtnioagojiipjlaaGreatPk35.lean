/-
  Some texts of one proof, one behind the other.
-/
import Derived.Test.YtnioagojiipjlaaGreatPk23
import Derived.Test.YtnioagojiipjlaaGreatPk30
set_option linter.unusedVariables false
set_option linter.unusedSimpArgs false

/-
  Rows of the call's own beside the document's disk.
-/
namespace Go.Proofs.YtnioagojiipjlaaGreat
open Go.RowKit Go.Maps
section
variable {w u : World} {Q : Nat} {g : Rg} {t : Nat} {j : Mt.Jn} {sl : Int} {d : Mt.Dk}
theorem QD.lts (h : QD w Q g t j sl d) : g.R < g.D ∧ g.bl < g.D ∧ g.bw < g.D ∧ g.D ≤ w.heap.size ∧ Q < w.heap.size := by
  have hq := lt_of_block h.jn
  have h4 := h.four
  obtain ⟨lim, most, tv, tn, tcs, hd, _⟩ := h.dk
  obtain ⟨a1, a2, _⟩ := hd.apart (by omega)
  exact ⟨hd.ltR, a1, a2, hd.size, hq⟩
theorem QD.more (h : QD w Q g t j sl d) (hb : Below w.heap.size w u) {b : Nat} (h1 : w.heap.size ≤ b) (h2 : b < u.heap.size) : QD u Q (g.more b) t j sl d :=
  ⟨h.jn.below hb, h.dk.more hb h1 h2, .inl h.kept, h.ne, h.four, h.half, h.head, h.gen, h.used, h.count, h.slot⟩
theorem QD.less {b : Nat} (h : QD w Q (g.more b) t j sl d) (hk : g.P Q) : QD w Q g t j sl d :=
  ⟨h.jn, h.dk.less rfl (fun _ hp => .inl hp), hk, h.ne, h.four, h.half, h.head, h.gen, h.used, h.count, h.slot⟩
/-- A row of the call's own is kept, beside the journal. -/
theorem QD.row (h : QD w Q g t j sl d) (hb : Below w.heap.size w u) {v : Value} {ls : List (List UInt8)} (ho : IsOwn 9 1 w.heap.size u v ls.length (tcs ls)) :
    ∃ g' : Rg, QD u Q g' t j sl d ∧ TsP u g' Q v ls ∧ (∀ x y, FrQ g' Q x y → FrQ g Q x y) ∧ (∀ x t' j' sl' d', QD x Q g' t' j' sl' d' → QD x Q g t' j' sl' d') := by
  obtain ⟨gg, hg, hr⟩ := ho
  rcases Nat.eq_zero_or_pos ls.length with h0 | h0
  · obtain ⟨a, c, e⟩ := hr.form
    exact ⟨g, h.below hb, ⟨a, c, e, .inl (List.eq_nil_of_length_eq_zero h0)⟩, fun _ _ h => h, fun _ _ _ _ _ h => h⟩
  · obtain ⟨off, cap, e, h2, h3, h4⟩ := hr.cell h0
    obtain ⟨l1, l2, l3, l4, l5⟩ := h.lts
    refine ⟨g.more gg, h.more hb hg h3, ⟨_, _, e, .inr ⟨gg, off, rfl, h3, .inr (.inr rfl), by show gg ≠ g.R; omega, by show gg ≠ g.bl; omega, by show gg ≠ g.bw; omega, by omega, fun j hj => ?_⟩⟩, fun _ _ h => h.less, fun _ _ _ _ _ hh => hh.less h.kept⟩
    rw [h4 j (by rw [tcs_length]; exact hj)]
    simp [tcs]
theorem own_one (w : World) (s : List UInt8) : IsOwn 9 1 w.heap.size (w.alloc (.cells #[.string (Mt.str s)] 9)) (.slice (some ⟨w.heap.size, 0, none⟩) [s].length 1) [s].length (tcs [s]) :=
  ⟨w.heap.size, Nat.le_refl _, rfl, .inr ⟨0, 1, #[.string (Mt.str s)], rfl, heap_alloc_new w _, Nat.le_refl _, Nat.le_refl _, fun j hj => by
    have hj0 : j = 0 := by have : j < 1 := hj; omega
    subst hj0
    simp [tcs]⟩⟩
/-- A row more, behind what was made. -/
theorem own_row {base base2 : Nat} {i : TypeInfo} {z : Value} (hi : Tryz.prog.info? 9 = some i) (hz : i.zero = some z) (hs : i.size = 1) (hby : i.bytes = 16) (hzs : z.cells.size = 1)
    {v : Value} {n m : Nat} {a2 : Option Addr} {c2 : Nat} {xs ys : List (List UInt8)} (hx : n = xs.length) (hy : m = ys.length) (h : IsOwn 9 1 base w v n (tcs xs)) (h2 : IsOwn 9 1 base2 w (.slice a2 m c2) m (tcs ys)) (h0 : 0 < m) (hbase : base ≤ w.heap.size) (hfit : (n + m) * 16 ≤ 140737488355328) :
    ∃ a' c' w', (∀ ty, (Builtin.append_ #[30, 30] ty #[v, .slice a2 m c2]).run Tryz.prog w = .ok (.slice a' (n + m) c') w') ∧ IsOwn 9 1 base w' (.slice a' (n + m) c') (n + m) (tcs (xs ++ ys)) ∧ Below base w w' := by
  subst hx hy
  obtain ⟨g1, hg1, hr⟩ := h
  obtain ⟨g2, hg2, hr2⟩ := h2
  obtain ⟨off, cap, e, h3, h4, h5⟩ := hr2.cell h0
  injection e with e1 e2 e3
  subst e1
  have src : Src Tryz.prog i.size 30 (.slice (some ⟨g2, off, none⟩) ys.length c2) ys.length (tcs ys) w :=
    Src.ofSlice _ Tryz.underlying30 ⟨g2, off, none⟩ ys.length c2 _ (by rw [hs, tcs_length, Nat.mul_one]) (fun j u hu => by
      have hj : j < (tcs ys).length := by
        rcases Nat.lt_or_ge j (tcs ys).length with hh | hh
        · exact hh
        · rw [List.getElem?_eq_none hh] at hu; cases hu
      rw [add_off, h5 j hj]
      rw [List.getElem?_eq_getElem hj] at hu
      exact hu) (tcs_one _)
  obtain ⟨v', w', g', hrun, hrw, hg', ho⟩ := rw_append (T := 30) (tx := 30) Tryz.underlying30 hi hz hs hby hzs hr (tcs_one _) _ ys.length (tcs ys) src hfit (by omega)
  obtain ⟨a', c', rfl⟩ := hrw.form
  refine ⟨a', c', w', hrun, ⟨g', ?_, by rw [tcs_append]; exact hrw⟩, ?_⟩
  · rcases hg' with rfl | rfl
    · exact hg1
    · exact hbase
  · exact ho.toBelow (by simpa using hg1) hbase
end
end Go.Proofs.YtnioagojiipjlaaGreat
