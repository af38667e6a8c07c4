/-
  Names that came in, read.
-/
import Derived.Test.YthpedokhalndjabDnF
import Derived.Test.YthpedokhalndjabRows
import Derived.Deep.CondSized
import Derived.Deep.Grids
import Derived.Maps.Ext
namespace Go.Proofs.Ythpedokhalndjab
open Go.RowKit Go.Deep

theorem cellsRdn : Try.prog.cellsOf 69 = 1 := by kernel_rfl
theorem cellsAva : Try.prog.cellsOf 74 = 2 := by kernel_rfl
theorem cellsStr9 : Try.prog.cellsOf 9 = 1 := by kernel_rfl
theorem addr9_none {w : World} {x : Addr} {v : Value} (h : w.cell? x = some v) : ∃ b off, x = ⟨b, off, none⟩ := by
  obtain ⟨b, off, spot⟩ := x
  have hs : spot = none := by simpa using World.cell?_spot h
  exact ⟨b, off, by rw [hs]⟩
theorem add9_zero (x : Addr) : x.add 0 = x := by obtain ⟨b, off, sp⟩ := x; unfold Addr.add; split <;> simp_all

set_option maxRecDepth 100000 in
/-- An RDN that came in. -/
theorem open_rdn {H : Type} {enc : TypeId × Value → H} {W : World} {fu : Nat} {cs : List Value} {x : DataW H × List MemPlace} (hf : DataW.trod enc Try.prog W 0 (fun _ => true) true fu 69 cs = some x) (h1 : cs.length = 1) :
    ∃ v r, cs = [v] ∧ IsAvs W v r := by
  rcases open_slice Try.underlying69 hf with ⟨hcs, _⟩ | ⟨y, l, cp, m, fu2, D, Pl, hcs, _, hl, hm, hmm, _, hi⟩
  · exact ⟨_, [], hcs, none, 0, rfl, by simp, by simp, .inl rfl⟩
  · refine ⟨.slice (some y) l cp, ?_⟩
    rw [cellsAva] at hi
    have hm' : l ≤ m := by rw [hmm]; split <;> omega
    have hex : ∀ i : Nat, ∃ a : Mt.Av, i < l → W.cell? (y.add (i * 2)) = some (.string (Mt.str a.1)) ∧ W.cell? ((y.add (i * 2)).add 1) = some (.string (Mt.str a.2)) := by
      intro i
      by_cases hin : i < l
      · obtain ⟨cs', hc, ht⟩ := hi i (by omega)
        obtain ⟨_, hlen, hat⟩ := World.cells?_some hc
        obtain ⟨xs, m2, _, _, _, hxl, hg⟩ := DataW.trod_struct Try.underlying74 ht
        match cs', hlen, xs, hxl with
        | [c0, c1], _, [y0, y1], _ =>
          obtain ⟨S, e0, _⟩ := DataW.trod_string Try.underlying9 (x := y0) (by simpa [cellsStr9, Value.cells] using hg 0 _ rfl)
          obtain ⟨T, e1, _⟩ := DataW.trod_string Try.underlying9 (x := y1) (by simpa [cellsStr9, Value.cells] using hg 1 _ rfl)
          simp only [List.cons.injEq, and_true] at e0 e1
          subst e0 e1
          refine ⟨(S.data.toList, T.data.toList), fun _ => ⟨?_, ?_⟩⟩
          · have := hat 0 (by decide); rw [add9_zero] at this; exact this
          · exact hat 1 (by decide)
      · exact ⟨([], []), fun h => absurd h hin⟩
    obtain ⟨f, hfm⟩ := Classical.axiomOfChoice hex
    refine ⟨(List.range l).map f, by simpa [Value.cells] using hcs, some y, cp, by simp, by simp; unfold maxLen at hm; omega, by simp; omega, ?_⟩
    rcases Nat.eq_zero_or_pos l with h0 | h0
    · subst h0; exact .inl rfl
    · have hv := (hfm 0 h0).1
      rw [Nat.zero_mul, add9_zero] at hv
      obtain ⟨b, off, rfl⟩ := addr9_none hv
      refine .inr ⟨b, off, rfl, World.block_lt_of_cell? W _ hv, fun j hj => ?_⟩
      have hin : j < l := by simpa using hj
      have h2 := hfm j hin
      rw [add_off, add_off] at h2
      simpa using h2
set_option maxRecDepth 100000 in
/-- A name that came in. -/
theorem open_dn {H : Type} {enc : TypeId × Value → H} {W : World} {a : Option Addr} {n c : Nat} {d : DataW H} {p : List MemPlace}
    (h : DataW.Trod enc Try.prog W 0 (fun _ => true) true 43 (.slice a n c) d p) : ∃ D, IsDn W (.slice a n c) D := by
  obtain ⟨fuel, hf⟩ := h
  rcases open_slice Try.underlying43 hf with ⟨hcs, _⟩ | ⟨y, l, cp, m, fu2, D, Pl, hcs, _, hl, hm, hmm, _, hi⟩
  · simp [Value.cells] at hcs
    obtain ⟨rfl, rfl, rfl⟩ := hcs
    exact ⟨[], none, 0, rfl, by simp, by simp, .inl rfl⟩
  · simp [Value.cells] at hcs
    obtain ⟨rfl, rfl, rfl⟩ := hcs
    rw [cellsRdn] at hi
    have hm' : n ≤ m := by rw [hmm]; split <;> omega
    have hex : ∀ i : Nat, ∃ q : Value × List Mt.Av, i < n → W.cell? (y.add i) = some q.1 ∧ IsAvs W q.1 q.2 := by
      intro i
      by_cases hin : i < n
      · obtain ⟨cs', hc, ht⟩ := hi i (by omega)
        rw [Nat.mul_one] at hc
        obtain ⟨_, hlen, hat⟩ := World.cells?_some hc
        obtain ⟨x, r, rfl, hr⟩ := open_rdn ht (by simpa using hlen)
        refine ⟨(x, r), fun _ => ⟨?_, hr⟩⟩
        have := hat 0 (by decide); rw [add9_zero] at this; exact this
      · exact ⟨(.bool false, []), fun h => absurd h hin⟩
    obtain ⟨f, hfm⟩ := Classical.axiomOfChoice hex
    refine ⟨(List.range n).map fun i => (f i).2, some y, c, by simp, by simp; unfold maxLen at hm; omega, by simp; omega, ?_⟩
    rcases Nat.eq_zero_or_pos n with h0 | h0
    · subst h0; exact .inl rfl
    · have hv := (hfm 0 h0).1
      rw [add9_zero] at hv
      obtain ⟨b, off, rfl⟩ := addr9_none hv
      refine .inr ⟨b, off, rfl, World.block_lt_of_cell? W _ hv, fun j hj => ?_⟩
      have hin : j < n := by simpa using hj
      have h2 := hfm j hin
      rw [add_off] at h2
      exact ⟨_, h2.1, by simpa using h2.2⟩
end Go.Proofs.Ythpedokhalndjab
