/-
  A struct of five cells as a result.
-/
import Derived.Test.YtnlbhmjgeedgpaaDoorGp
import Derived.Handy
import Derived.Laws.ResultCell
set_option linter.unusedVariables false
set_option linter.unusedSimpArgs false
namespace Go.Proofs.YtnlbhmjgeedgpaaDoor
open Go.RowKit

theorem box5F {w : World} {b : Nat} {v0 v1 v2 v3 v4 : Value} {T : TypeId} (h : w.heap[b]? = some (.cells #[v0, v1, v2, v3, v4] T)) :
    (w.cell? ⟨b, 0, none⟩ = some v0 ∧ w.cell? ⟨b, 1, none⟩ = some v1 ∧ w.cell? ⟨b, 2, none⟩ = some v2 ∧ w.cell? ⟨b, 3, none⟩ = some v3 ∧ w.cell? ⟨b, 4, none⟩ = some v4) ∧
    (w.frozen? ⟨b, 0, none⟩ = false ∧ w.frozen? ⟨b, 1, none⟩ = false ∧ w.frozen? ⟨b, 2, none⟩ = false ∧ w.frozen? ⟨b, 3, none⟩ = false ∧ w.frozen? ⟨b, 4, none⟩ = false) :=
  ⟨⟨by rw [cell_of_row _ _ _ _ _ _ h]; rfl, by rw [cell_of_row _ _ _ _ _ _ h]; rfl, by rw [cell_of_row _ _ _ _ _ _ h]; rfl, by rw [cell_of_row _ _ _ _ _ _ h]; rfl, by rw [cell_of_row _ _ _ _ _ _ h]; rfl⟩,
   frozen_of_row _ _ _ _ _ h, frozen_of_row _ _ _ _ _ h, frozen_of_row _ _ _ _ _ h, frozen_of_row _ _ _ _ _ h, frozen_of_row _ _ _ _ _ h⟩
theorem box2F {w : World} {b : Nat} {v0 v1 : Value} {T : TypeId} (h : w.heap[b]? = some (.cells #[v0, v1] T)) :
    (w.cell? ⟨b, 0, none⟩ = some v0 ∧ w.cell? ⟨b, 1, none⟩ = some v1) ∧ (w.frozen? ⟨b, 0, none⟩ = false ∧ w.frozen? ⟨b, 1, none⟩ = false) :=
  ⟨⟨by rw [cell_of_row _ _ _ _ _ _ h]; rfl, by rw [cell_of_row _ _ _ _ _ _ h]; rfl⟩, frozen_of_row _ _ _ _ _ h, frozen_of_row _ _ _ _ _ h⟩
/-- Five cells stored. -/
def set5W (w : World) (b : Nat) (u0 u1 u2 u3 u4 : Value) : World := ((((w.setCell ⟨b, 0, none⟩ u0).setCell ⟨b, 1, none⟩ u1).setCell ⟨b, 2, none⟩ u2).setCell ⟨b, 3, none⟩ u3).setCell ⟨b, 4, none⟩ u4
theorem set5F {w : World} {b : Nat} {v0 v1 v2 v3 v4 : Value} {T : TypeId} (h : w.heap[b]? = some (.cells #[v0, v1, v2, v3, v4] T)) (u0 u1 u2 u3 u4 : Value) :
    (((((w.setCell ⟨b, 0, none⟩ u0).setCell ⟨b, 1, none⟩ u1).setCell ⟨b, 2, none⟩ u2).setCell ⟨b, 3, none⟩ u3).setCell ⟨b, 4, none⟩ u4).heap[b]? = some (.cells #[u0, u1, u2, u3, u4] T) := by
  have h0 := heap_setCell_same w b 0 _ T u0 h
  have h1 := heap_setCell_same _ b 1 _ T u1 h0
  have h2 := heap_setCell_same _ b 2 _ T u2 h1
  have h3 := heap_setCell_same _ b 3 _ T u3 h2
  exact heap_setCell_same _ b 4 _ T u4 h3
theorem only5F (w : World) (b : Nat) (u0 u1 u2 u3 u4 : Value) : OnlyS [b] w (((((w.setCell ⟨b, 0, none⟩ u0).setCell ⟨b, 1, none⟩ u1).setCell ⟨b, 2, none⟩ u2).setCell ⟨b, 3, none⟩ u3).setCell ⟨b, 4, none⟩ u4) :=
  (((((OnlyS.refl [b] w).setCell (by simp) u0).setCell (by simp) u1).setCell (by simp) u2).setCell (by simp) u3).setCell (by simp) u4
theorem load5F {T : TypeId} {d : TypeDesc} {w : World} {b : Nat} {v0 v1 v2 v3 v4 : Value} {T' : TypeId} (h : w.heap[b]? = some (.cells #[v0, v1, v2, v3, v4] T'))
    {fs : _} (hu : Tryd.prog.underlying T = some (.struct fs)) (hi : (Tryd.prog.info? T).map (·.size) = some 5) : (loadVar T ⟨b, 0, none⟩).run Tryd.prog w = .ok (.agg #[v0, v1, v2, v3, v4]) w := by
  obtain ⟨⟨q0, q1, q2, q3, q4⟩, -⟩ := box5F h
  exact run_loadVar_cells w T ⟨b, 0, none⟩ #[v0, v1, v2, v3, v4] (.struct fs) (fun j v hv => by
    rw [add_off, Nat.zero_add]
    match j, hv with
    | 0, hv => obtain rfl : v0 = v := by simpa using hv
               exact q0
    | 1, hv => obtain rfl : v1 = v := by simpa using hv
               exact q1
    | 2, hv => obtain rfl : v2 = v := by simpa using hv
               exact q2
    | 3, hv => obtain rfl : v3 = v := by simpa using hv
               exact q3
    | 4, hv => obtain rfl : v4 = v := by simpa using hv
               exact q4
    | j + 5, hv => simp at hv) hu rfl hi
/-- A box of five cells is stored and answered, with a slot beside it. -/
theorem ret5 {fn : Func} {R : Ending → World → Prop} {a : Act} {w : World} {p u : Tmp} {ty : TypeId} (h : fn.results = #[.cell p ty, .tmp u]) (g : Nat) (v0 v1 v2 v3 v4 x : Value)
    (hd : a.defers = []) (hp : a.tmps.getD p undef = .pointer (some ⟨g, 0, none⟩)) (hx : a.tmps.getD u undef = x) {fs : _} (hu : Tryd.prog.underlying ty = some (.struct fs)) (hi : (Tryd.prog.info? ty).map (·.size) = some 5)
    {c0 c1 c2 c3 c4 : Value} {T' : TypeId} (hg : w.heap[g]? = some (.cells #[c0, c1, c2, c3, c4] T'))
    (hR : ∀ w5, OnlyS [g] w w5 → w5.heap[g]? = some (.cells #[v0, v1, v2, v3, v4] T') → R (.returned (.tuple #[.agg #[v0, v1, v2, v3, v4], x])) w5) :
    bodyPost Tryd.prog fn R .ret a (((((w.setCell ⟨g, 0, none⟩ v0).setCell ⟨g, 1, none⟩ v1).setCell ⟨g, 2, none⟩ v2).setCell ⟨g, 3, none⟩ v3).setCell ⟨g, 4, none⟩ v4) := by
  have h5 := set5F hg v0 v1 v2 v3 v4
  have ho := only5F w g v0 v1 v2 v3 v4
  generalize ((((w.setCell ⟨g, 0, none⟩ v0).setCell ⟨g, 1, none⟩ v1).setCell ⟨g, 2, none⟩ v2).setCell ⟨g, 3, none⟩ v3).setCell ⟨g, 4, none⟩ v4 = wz at *
  refine bodyPost_ret ?_ hd (hR wz ho h5)
  rw [results_cell_tmp h, hp, hx]
  simp [asAddr, load5F (T := ty) (d := .struct fs) h5 hu hi, Result.andThen]
end Go.Proofs.YtnlbhmjgeedgpaaDoor
