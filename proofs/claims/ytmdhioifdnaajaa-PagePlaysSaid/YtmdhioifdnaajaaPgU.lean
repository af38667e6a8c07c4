/-
  What came in, opened: calls of a book.
-/
import Derived.Test.YtmdhioifdnaajaaPgL
set_option linter.unusedVariables false
set_option linter.unusedSimpArgs false
namespace Go.Proofs.Ytmdhioifdnaajaa
open Go.RowKit Go.ChangeShapes Go.WideShapes Go.ChangeAt
set_option linter.unusedVariables false

structure Mt.Ac where
  d : Int
  c : Int
  v : Int
  a : Int
  o : Int
  k : ByteArray
  s : ByteArray
def ActAt (w : World) (b off : Nat) (q : Mt.Ac) : Prop := w.cell? ⟨b, off, none⟩ = some (.int .i64 q.d) ∧ w.cell? ⟨b, off + 1, none⟩ = some (.int .i64 q.c) ∧ w.cell? ⟨b, off + 2, none⟩ = some (.int .i64 q.v) ∧ w.cell? ⟨b, off + 3, none⟩ = some (.int .i64 q.a) ∧ w.cell? ⟨b, off + 4, none⟩ = some (.int .i64 q.o) ∧ w.cell? ⟨b, off + 5, none⟩ = some (.string q.k) ∧ w.cell? ⟨b, off + 6, none⟩ = some (.string q.s)
def IsActs (w : World) (v : Value) (l : List Mt.Ac) : Prop := ∃ a cap, v = .slice a l.length cap ∧ l.length ≤ cap ∧ Hid (∀ j (hj : j < l.length), ∃ b off, a = some ⟨b, off, none⟩ ∧ b < w.heap.size ∧ ActAt w b (off + j * 7) l[j] ∧ (Lit.int .i64 l[j].d).wf = true ∧ (Lit.int .i64 l[j].c).wf = true ∧ (Lit.int .i64 l[j].o).wf = true)
theorem add26_zero (x : Addr) : x.add 0 = x := by obtain ⟨b, off, sp⟩ := x; unfold Addr.add; split <;> simp_all
set_option maxRecDepth 100000 in
/-- Calls that came in. -/
theorem open_acts {H : Type} {enc : TypeId × Value → H} {W : World} {a : Option Addr} {n c : Nat} {d : DataW H} {p : List MemPlace} (h : DataW.Trod enc Try.prog W 0 (fun _ => true) true 22 (.slice a n c) d p) : ∃ l, IsActs W (.slice a n c) l := by
  obtain ⟨fuel, hf⟩ := h
  rcases DataW.trod_slice Try.underlying22 hf with ⟨hcs, _⟩ | ⟨y, l, cp, elems, rest, n2, hmn, hcs, hy2, _, hl, hm, hlen, hel, _, _⟩
  · simp [Value.cells] at hcs
    obtain ⟨rfl, rfl, rfl⟩ := hcs
    exact ⟨[], none, 0, rfl, by simp, Lib.hid fun j hj => absurd hj (by simp)⟩
  · simp [Value.cells] at hcs
    obtain ⟨rfl, rfl, rfl⟩ := hcs
    rw [cellsAct26] at hel
    have hex : ∀ i : Nat, ∃ q : Mt.Ac, i < n → ((∀ j (hj : j < 7), W.cell? ((y.add (i * 7)).add j) = [Value.int .i64 q.d, .int .i64 q.c, .int .i64 q.v, .int .i64 q.a, .int .i64 q.o, .string q.k, .string q.s][j]?) ∧ (Lit.int .i64 q.d).wf = true ∧ (Lit.int .i64 q.c).wf = true ∧ (Lit.int .i64 q.o).wf = true) := by
      intro i
      by_cases hin : i < n
      · have h := hel i hin
        rw [List.getElem?_eq_getElem (by omega)] at h
        obtain ⟨cs', hc, ht⟩ := Option.bind_eq_some_iff.1 h
        obtain ⟨_, hcl, hat⟩ := World.cells?_some hc
        obtain ⟨xs, m2, _, hxx, _, hxl, hg⟩ := DataW.trod_struct Try.underlying32 ht
        match cs', hcl, xs, hxl with
        | [c0, c1, c2, c3, c4, c5, c6], _, [y0, y1, y2, y3, y4, y5, y6], _ =>
          obtain ⟨n0, e0, _, h0⟩ := DataW.trod_int Try.underlying3 (x := y0) (by simpa [cellsInt26, Value.cells] using hg 0 _ rfl)
          obtain ⟨n1, e1, _, h1⟩ := DataW.trod_int Try.underlying3 (x := y1) (by simpa [cellsInt26, Value.cells] using hg 1 _ rfl)
          obtain ⟨n2, e2, _⟩ := DataW.trod_int Try.underlying3 (x := y2) (by simpa [cellsInt26, Value.cells] using hg 2 _ rfl)
          obtain ⟨n3, e3, _⟩ := DataW.trod_int Try.underlying3 (x := y3) (by simpa [cellsInt26, Value.cells] using hg 3 _ rfl)
          obtain ⟨n4, e4, _, h4⟩ := DataW.trod_int Try.underlying3 (x := y4) (by simpa [cellsInt26, Value.cells] using hg 4 _ rfl)
          obtain ⟨s5, e5, _⟩ := DataW.trod_string Try.underlying9 (x := y5) (by simpa [cellsStr26, Value.cells] using hg 5 _ rfl)
          obtain ⟨s6, e6, _⟩ := DataW.trod_string Try.underlying9 (x := y6) (by simpa [cellsStr26, Value.cells] using hg 6 _ rfl)
          simp only [List.cons.injEq, and_true] at e0 e1 e2 e3 e4 e5 e6
          subst e0 e1 e2 e3 e4 e5 e6
          exact ⟨⟨n0, n1, n2, n3, n4, s5, s6⟩, fun _ => ⟨fun j hj => hat j (by simpa using hj), h0, h1, h4⟩⟩
      · exact ⟨⟨0, 0, 0, 0, 0, .empty, .empty⟩, fun h => absurd h hin⟩
    obtain ⟨f, hfm⟩ := Classical.axiomOfChoice hex
    have hlD : ((List.range n).map f).length = n := by simp
    refine ⟨(List.range n).map f, some y, c, by rw [hlD], by rw [hlD]; omega, Lib.hid fun j hj => ?_⟩
    have hin : j < n := by rw [hlD] at hj; exact hj
    have hv := (hfm 0 (by omega)).1 0 (by omega)
    rw [Nat.zero_mul, add26_zero, add26_zero] at hv
    obtain ⟨b, off, spot⟩ := y
    have hs : spot = none := by simpa using World.cell?_spot hv
    subst hs
    obtain ⟨h2, h3, h4, h5⟩ := hfm j hin
    have hj' : ((List.range n).map f)[j] = f j := by simp
    rw [hj']
    have hc : ∀ m (hm : m < 7), W.cell? ⟨b, off + j * 7 + m, none⟩ = [Value.int .i64 (f j).d, .int .i64 (f j).c, .int .i64 (f j).v, .int .i64 (f j).a, .int .i64 (f j).o, .string (f j).k, .string (f j).s][m]? := fun m hm => by have := h2 m hm; rw [add_off, add_off] at this; exact this
    exact ⟨b, off, rfl, World.block_lt_of_cell? W _ hv, ⟨hc 0 (by decide), hc 1 (by decide), hc 2 (by decide), hc 3 (by decide), hc 4 (by decide), hc 5 (by decide), hc 6 (by decide)⟩, h3, h4, h5⟩
end Go.Proofs.Ytmdhioifdnaajaa
