/-
  What came in, opened: a state, tries.
-/
import Derived.Test.YtcijjblcoelabaaPlP
set_option linter.unusedVariables false
set_option linter.unusedSimpArgs false
namespace Go.Proofs.Ytcijjblcoelabaa
open Go.RowKit Go.ChangeShapes Go.WideShapes Go.ChangeAt
set_option linter.unusedVariables false

/-- Times that came in. -/
theorem open_tmF {H : Type} {enc : TypeId × Value → H} {W : World} {fu : Nat} {cs : List Value} {x : DataW H × List MemPlace} (hf : DataW.trod enc Try.prog W 0 (fun _ => true) true fu 24 cs = some x) : ∃ v l, cs = [v] ∧ IsTm W v l := by
  rcases Go.ChangeShapes.open_ints Try.underlying24 Try.underlying2 cellsI64 hf with ⟨hcs, _⟩ | ⟨y, n, cap, zs, hcs, _, hl, hm, hlen, _, hc, hw⟩
  · exact ⟨_, [], hcs, IsTm.nil W⟩
  · have hz : zs.length = cap := by simpa using hlen
    refine ⟨_, zs.take n, hcs, some y, cap, by rw [List.length_take, Nat.min_eq_left (by omega)], by rw [List.length_take]; omega, Lib.hid fun j hj => ?_⟩
    have hjn : j < n := by rw [List.length_take] at hj; omega
    obtain ⟨b, off, spot⟩ := y
    have hspot : spot = none := by
      have h0 := hc 0 (by omega)
      simpa [Addr.add] using World.cell?_spot h0
    subst hspot
    have h1 := hc j (by omega)
    rw [add_off] at h1
    refine ⟨b, off, rfl, World.block_lt_of_cell? W _ h1, ?_⟩
    rw [h1]
    simp [List.getD, List.getElem?_eq_getElem (show j < zs.length by omega)]
theorem cellsPSt : Try.prog.cellsOf 26 = 3 := by kernel_rfl
theorem cellsI64s : Try.prog.cellsOf 24 = 1 := by kernel_rfl
set_option maxRecDepth 100000 in
/-- A state that came in: its three fields. -/
theorem open_pst {H : Type} {enc : TypeId × Value → H} {W : World} {r : Reach} {b0 : Nat} {v : Value} {d : DataW H} {p : List MemPlace} (hv : Value.okWide Try.prog W r b0 26 v) (h : DataW.Trod enc Try.prog W 0 (fun _ => true) true 26 v d p) :
    ∃ (fv : Value) (s : Mt.Ps), v = stV fv s ∧ IsTm W fv s.fails := by
  obtain ⟨cs, rfl, hz⟩ := okWide_struct Try.underlying26 hv
  rw [cellsPSt] at hz
  obtain ⟨l⟩ := cs
  obtain ⟨fuel, hf⟩ := h
  obtain ⟨xs, m, _, _, _, hxl, hg⟩ := DataW.trod_struct Try.underlying26 hf
  match l, hz, xs, hxl with
  | [c0, c1, c2], _, [y0, y1, y2], _ =>
    obtain ⟨fv, fl, e0, ht⟩ := open_tmF (x := y0) (by simpa [cellsI64s, Value.cells] using hg 0 _ rfl)
    obtain ⟨a, e1, _, ha⟩ := DataW.trod_int Try.underlying2 (x := y1) (by simpa [cellsI64s, cellsI64, Value.cells] using hg 1 _ rfl)
    obtain ⟨b, e2, _, hb⟩ := DataW.trod_int Try.underlying2 (x := y2) (by simpa [cellsI64s, cellsI64, Value.cells] using hg 2 _ rfl)
    simp only [List.cons.injEq, and_true] at e0 e1 e2
    subst e0 e1 e2
    exact ⟨c0, ⟨fl, a, b⟩, rfl, ht⟩
/-- Tries in a slice. -/
def IsTrys (w : World) (v : Value) (l : List (Int × Bool)) : Prop := ∃ a cap, v = .slice a l.length cap ∧ l.length ≤ cap ∧ Hid (∀ j (hj : j < l.length), ∃ b off, a = some ⟨b, off, none⟩ ∧ b < w.heap.size ∧ w.cell? ⟨b, off + j * 2, none⟩ = some (.int .i64 l[j].1) ∧ w.cell? ⟨b, off + j * 2 + 1, none⟩ = some (.bool l[j].2))
theorem cellsTry23 : Try.prog.cellsOf 37 = 2 := by kernel_rfl
theorem cellsBool23 : Try.prog.cellsOf 4 = 1 := by kernel_rfl
theorem add23_zero (x : Addr) : x.add 0 = x := by obtain ⟨b, off, sp⟩ := x; unfold Addr.add; split <;> simp_all
set_option maxRecDepth 100000 in
/-- Tries that came in. -/
theorem open_trys {H : Type} {enc : TypeId × Value → H} {W : World} {a : Option Addr} {n c : Nat} {d : DataW H} {p : List MemPlace} (h : DataW.Trod enc Try.prog W 0 (fun _ => true) true 27 (.slice a n c) d p) : ∃ l, IsTrys W (.slice a n c) l := by
  obtain ⟨fuel, hf⟩ := h
  rcases DataW.trod_slice Try.underlying27 hf with ⟨hcs, _⟩ | ⟨y, l, cp, elems, rest, n2, hmn, hcs, hy2, _, hl, hm, hlen, hel, _, _⟩
  · simp [Value.cells] at hcs
    obtain ⟨rfl, rfl, rfl⟩ := hcs
    exact ⟨[], none, 0, rfl, by simp, Lib.hid fun j hj => absurd hj (by simp)⟩
  · simp [Value.cells] at hcs
    obtain ⟨rfl, rfl, rfl⟩ := hcs
    rw [cellsTry23] at hel
    have hex : ∀ i : Nat, ∃ q : Int × Bool, i < n → (W.cell? (y.add (i * 2)) = some (.int .i64 q.1) ∧ W.cell? ((y.add (i * 2)).add 1) = some (.bool q.2)) := by
      intro i
      by_cases hin : i < n
      · have h := hel i hin
        rw [List.getElem?_eq_getElem (by omega)] at h
        obtain ⟨cs', hc, ht⟩ := Option.bind_eq_some_iff.1 h
        obtain ⟨_, hcl, hat⟩ := World.cells?_some hc
        obtain ⟨xs, m2, _, hxx, _, hxl, hg⟩ := DataW.trod_struct Try.underlying37 ht
        obtain ⟨c0, c1, rfl⟩ : ∃ c0 c1, cs' = [c0, c1] := by
          match cs', hcl with
          | [c0, c1], _ => exact ⟨c0, c1, rfl⟩
        obtain ⟨y0, y1, rfl⟩ : ∃ y0 y1, xs = [y0, y1] := by
          match xs, hxl with
          | [y0, y1], _ => exact ⟨y0, y1, rfl⟩
        obtain ⟨I0, e0, _⟩ := DataW.trod_int Try.underlying2 (x := y0) (by simpa [cellsI64, Value.cells] using hg 0 _ rfl)
        obtain ⟨B1, e1, _⟩ := DataW.trod_bool Try.underlying4 (x := y1) (by simpa [cellsI64, cellsBool23, Value.cells] using hg 1 _ rfl)
        simp only [List.cons.injEq, and_true] at e0 e1
        subst e0 e1
        refine ⟨(I0, B1), fun _ => ⟨?_, hat 1 (by decide)⟩⟩
        have := hat 0 (by decide); rw [add23_zero] at this; exact this
      · exact ⟨(0, false), fun h => absurd h hin⟩
    obtain ⟨f, hfm⟩ := Classical.axiomOfChoice hex
    have hlD : ((List.range n).map f).length = n := by simp
    refine ⟨(List.range n).map f, some y, c, by rw [hlD], by rw [hlD]; omega, Lib.hid fun j hj => ?_⟩
    have hin : j < n := by rw [hlD] at hj; exact hj
    have hv := (hfm 0 (by omega)).1
    rw [Nat.zero_mul, add23_zero] at hv
    obtain ⟨b, off, spot⟩ := y
    have hs : spot = none := by simpa using World.cell?_spot hv
    subst hs
    have h2 := hfm j hin
    rw [add_off, add_off] at h2
    exact ⟨b, off, rfl, World.block_lt_of_cell? W _ hv, by simpa using h2.1, by simpa using h2.2⟩
end Go.Proofs.Ytcijjblcoelabaa
