/-
  What the document's Same comes to.
-/
import Derived.Test.YthkhicpkkmhfbaaDnF
import Derived.Test.YthkhicpkkmhfbaaDnC
import Derived.Deep.QuietTactic
import Derived.BigQuiet
namespace Go.Proofs.Ythkhicpkkmhfbaa
open Go.RowKit

theorem IsDn.row {w : World} {a : Option Addr} {n cap : Nat} {d : List (List Mt.Av)} (h : IsDn w (.slice a n cap) d) (j : Nat) (hj : j < d.length) : ∃ b off, a = some ⟨b, off, none⟩ ∧ ∃ x, IsAvs w x d[j] ∧ ∀ u, Below w.heap.size w u → u.cell? ⟨b, off + j, none⟩ = some x := by
  obtain ⟨a1, cap1, h1, _, _, h4⟩ := h
  cases h1
  rcases h4 with h | ⟨b, off, h1, h2, h3⟩
  · subst h; simp at hj
  · obtain ⟨x, h4, h5⟩ := h3 j hj
    exact ⟨b, off, h1, x, h5, fun u hu => (hu.cell (p := ⟨b, off + j, none⟩) h2).trans h4⟩
theorem IsAvs.row {w : World} {a : Option Addr} {n cap : Nat} {r : List Mt.Av} (h : IsAvs w (.slice a n cap) r) (j : Nat) (hj : j < r.length) : ∃ b off, a = some ⟨b, off, none⟩ ∧ ∀ u, Below w.heap.size w u → u.cell? ⟨b, off + j * 2, none⟩ = some (.string (Mt.str r[j].1)) ∧ u.cell? ⟨b, off + j * 2 + 1, none⟩ = some (.string (Mt.str r[j].2)) := by
  obtain ⟨a1, cap1, h1, _, _, h4⟩ := h
  cases h1
  rcases h4 with h | ⟨b, off, h1, h2, h3⟩
  · subst h; simp at hj
  · exact ⟨b, off, h1, fun u hu => ⟨(hu.cell (p := ⟨b, off + j * 2, none⟩) h2).trans (h3 j hj).1, (hu.cell (p := ⟨b, off + j * 2 + 1, none⟩) h2).trans (h3 j hj).2⟩⟩
theorem Below.drewK {B : Nat} {a w : World} (h : Below B a w) (m : Nat) : Below B a (w.drewN m) := ⟨h.os, h.tape, h.output, h.size, h.block⟩
theorem Mt.ext_of {α : Type} {a b : List α} (hl : a.length = b.length) (h : ∀ j (h1 : j < a.length) (h2 : j < b.length), a[j] = b[j]) : a = b := List.ext_getElem hl h

end Go.Proofs.Ythkhicpkkmhfbaa
