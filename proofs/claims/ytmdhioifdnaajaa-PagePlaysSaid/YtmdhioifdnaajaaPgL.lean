/-
  What came in, opened: a call of a book.
-/
import Derived.Test.YtmdhioifdnaajaaRows
import Derived.Test.YtmdhioifdnaajaaPgK
import Derived.OpenShut
import Derived.SizedLaws
import Derived.ProofKit
set_option linter.unusedVariables false
set_option linter.unusedSimpArgs false
namespace Go.Proofs.Ytmdhioifdnaajaa
open Go.RowKit Go.ChangeShapes Go.WideShapes Go.ChangeAt
set_option linter.unusedVariables false

def actV (d c v a o : Int) (k s : ByteArray) : Value := .agg #[.int .i64 d, .int .i64 c, .int .i64 v, .int .i64 a, .int .i64 o, .string k, .string s]
theorem act_cells {w : World} {b : Nat} {d c v a o k s : Value} {T : TypeId} (h : w.heap[b]? = some (.cells #[d, c, v, a, o, k, s] T)) :
    w.cell? ⟨b, 1, none⟩ = some c ∧ w.cell? ⟨b, 2, none⟩ = some v ∧ w.cell? ⟨b, 3, none⟩ = some a ∧ w.cell? ⟨b, 5, none⟩ = some k :=
  ⟨by rw [cell_of_row _ _ _ _ _ _ h]; rfl, by rw [cell_of_row _ _ _ _ _ _ h]; rfl, by rw [cell_of_row _ _ _ _ _ _ h]; rfl, by rw [cell_of_row _ _ _ _ _ _ h]; rfl⟩
theorem cellsAct26 : Try.prog.cellsOf 32 = 7 := by kernel_rfl
theorem cellsInt26 : Try.prog.cellsOf 3 = 1 := by kernel_rfl
theorem cellsStr26 : Try.prog.cellsOf 9 = 1 := by kernel_rfl
set_option maxRecDepth 100000 in
/-- A call that came in: its seven fields. -/
theorem open_act {H : Type} {enc : TypeId × Value → H} {W : World} {r : Reach} {b0 : Nat} {v : Value} {d : DataW H} {p : List MemPlace} (hv : Value.okWide Try.prog W r b0 32 v) (h : DataW.Trod enc Try.prog W 0 (fun _ => true) true 32 v d p) :
    ∃ (d c ver a o : Int) (k s : ByteArray), v = actV d c ver a o k s ∧ (Lit.int .i64 d).wf = true ∧ (Lit.int .i64 c).wf = true := by
  obtain ⟨cs, rfl, hz⟩ := okWide_struct Try.underlying32 hv
  rw [cellsAct26] at hz
  obtain ⟨l⟩ := cs
  obtain ⟨fuel, hf⟩ := h
  obtain ⟨xs, m, _, _, _, hxl, hg⟩ := DataW.trod_struct Try.underlying32 hf
  match l, hz, xs, hxl with
  | [c0, c1, c2, c3, c4, c5, c6], _, [y0, y1, y2, y3, y4, y5, y6], _ =>
    obtain ⟨n0, e0, _, h0⟩ := DataW.trod_int Try.underlying3 (x := y0) (by simpa [cellsInt26, Value.cells] using hg 0 _ rfl)
    obtain ⟨n1, e1, _, h1⟩ := DataW.trod_int Try.underlying3 (x := y1) (by simpa [cellsInt26, Value.cells] using hg 1 _ rfl)
    obtain ⟨n2, e2, _⟩ := DataW.trod_int Try.underlying3 (x := y2) (by simpa [cellsInt26, Value.cells] using hg 2 _ rfl)
    obtain ⟨n3, e3, _⟩ := DataW.trod_int Try.underlying3 (x := y3) (by simpa [cellsInt26, Value.cells] using hg 3 _ rfl)
    obtain ⟨n4, e4, _⟩ := DataW.trod_int Try.underlying3 (x := y4) (by simpa [cellsInt26, Value.cells] using hg 4 _ rfl)
    obtain ⟨s5, e5, _⟩ := DataW.trod_string Try.underlying9 (x := y5) (by simpa [cellsStr26, Value.cells] using hg 5 _ rfl)
    obtain ⟨s6, e6, _⟩ := DataW.trod_string Try.underlying9 (x := y6) (by simpa [cellsStr26, Value.cells] using hg 6 _ rfl)
    simp only [List.cons.injEq, and_true] at e0 e1 e2 e3 e4 e5 e6
    subst e0 e1 e2 e3 e4 e5 e6
    exact ⟨n0, n1, n2, n3, n4, s5, s6, rfl, h0, h1⟩
end Go.Proofs.Ytmdhioifdnaajaa
