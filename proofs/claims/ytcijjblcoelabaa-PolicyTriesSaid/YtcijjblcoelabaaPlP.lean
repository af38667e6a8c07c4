/-
  A round less; a policy that came in.
-/
import Derived.Test.YtcijjblcoelabaaPlA
import Derived.Test.YtcijjblcoelabaaRows
import Derived.ProofKit
import Derived.SizedLaws
import Derived.OpenShut
set_option linter.unusedVariables false
set_option linter.unusedSimpArgs false
namespace Go.Proofs.Ytcijjblcoelabaa
open Go.RowKit Go.ChangeShapes Go.WideShapes Go.ChangeAt

theorem meas_step23 {N j : Nat} (h : j < N) : N - (intOf (.int .i64 ((j + 1 : Nat) : Int))).toNat < N - (intOf (.int .i64 (j : Int))).toNat := by
  simp [intOf]; omega
theorem cellsPolicy : Try.prog.cellsOf 23 = 4 := by kernel_rfl
theorem cellsInt23 : Try.prog.cellsOf 3 = 1 := by kernel_rfl
theorem cellsI64 : Try.prog.cellsOf 2 = 1 := by kernel_rfl
set_option maxRecDepth 100000 in
/-- A policy that came in: its four fields. -/
theorem open_pol {H : Type} {enc : TypeId × Value → H} {W : World} {r : Reach} {b0 : Nat} {v : Value} {d : DataW H} {p : List MemPlace} (hv : Value.okWide Try.prog W r b0 23 v) (h : DataW.Trod enc Try.prog W 0 (fun _ => true) true 23 v d p) :
    ∃ f wi lo ag : Int, v = .agg #[.int .i64 f, .int .i64 wi, .int .i64 lo, .int .i64 ag] := by
  obtain ⟨cs, rfl, hz⟩ := okWide_struct Try.underlying23 hv
  rw [cellsPolicy] at hz
  obtain ⟨l⟩ := cs
  obtain ⟨fuel, hf⟩ := h
  obtain ⟨xs, m, _, _, _, hxl, hg⟩ := DataW.trod_struct Try.underlying23 hf
  match l, hz, xs, hxl with
  | [c0, c1, c2, c3], _, [y0, y1, y2, y3], _ =>
    obtain ⟨n, e0, _, hn⟩ := DataW.trod_int Try.underlying3 (x := y0) (by simpa [cellsInt23, Value.cells] using hg 0 _ rfl)
    obtain ⟨a, e1, _, ha⟩ := DataW.trod_int Try.underlying2 (x := y1) (by simpa [cellsInt23, cellsI64, Value.cells] using hg 1 _ rfl)
    obtain ⟨b, e2, _, hb⟩ := DataW.trod_int Try.underlying2 (x := y2) (by simpa [cellsInt23, cellsI64, Value.cells] using hg 2 _ rfl)
    obtain ⟨c, e3, _, hc⟩ := DataW.trod_int Try.underlying2 (x := y3) (by simpa [cellsInt23, cellsI64, Value.cells] using hg 3 _ rfl)
    simp only [List.cons.injEq, and_true] at e0 e1 e2 e3
    subst e0 e1 e2 e3
    exact ⟨n, a, b, c, rfl⟩
end Go.Proofs.Ytcijjblcoelabaa
