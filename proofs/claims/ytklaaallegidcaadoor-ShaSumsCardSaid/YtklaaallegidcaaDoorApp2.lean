/-
  'append' as a step of a region that draws its order; a slice of one value that the region lays.
-/
import Derived.Test.YtklaaallegidcaaDoorLast3
import Derived.Laws.AppendOwn
namespace Go.Proofs.YtklaaallegidcaaDoor
open Go.RowKit

theorem step_append_own {P : Program} {ops : Array Oper} {o : Oper} {a : Act} {w : World} {K : Act → World → Prop} {Q : Exit → Act → World → Prop} {E : Prop}
    (hg : o.guard = none) (s x : Operand) (t : TypeId) (hop : o.op = Op.call { callee := Callee.builtin Builtin.append, args := #[s, x], argTypes := #[t, t] })
    (base : Nat) (e : TypeId) (i : TypeInfo) (z : Value) (size bytes : Nat) (h1 : P.underlying t = some (.slice e)) (h2 : P.info? e = some i) (h3 : i.zero = some z) (h4 : i.size = size) (h5 : i.bytes = bytes) (h6 : z.cells.size = size) (h7 : 0 < size)
    (v : Value) (k : Nat) (xs : List Value) (hs : a.eval s = v) (hown : w.ownsRow base e size v k xs) (ad : Addr) (m c : Nat) (news : List Value) (hx : a.eval x = .slice (some ad) m c) (hn : news.length = m * size)
    (hc : ∀ j u, news[j]? = some u → w.cell? (ad.add j) = some u) (h1c : ∀ u ∈ news, u.oneCell' = true) (b1 : k + m ≤ maxLen) (b2 : (k + m) * bytes ≤ 140737488355328) (b3 : base ≤ w.heap.size)
    (hK : ∀ v' w', w'.ownsRow base e size v' (k + m) (xs ++ news) → w.grownBy w' v.ownBlock → K (a.put o.dst v') w') :
    if Region.wanted o (yielded ops a.tmps) = true then Oper.wp P o a w K Q else E := by
  have hw : Region.wanted o (yielded ops a.tmps) = true := by simp [Region.wanted, hg]
  rw [if_pos hw]
  obtain ⟨v', w', hrun, r1, r2, _⟩ := run_append_own (P := P) (w := w) base t o.type e i z size bytes h1 h2 h3 h4 h5 h6 h7 v k xs hown ad m c news hn hc h1c b1 b2 b3
  unfold Oper.wp
  simp [execOp, hop, resolve, invoke, builtin, hs, hx, hrun, Result.andThen]
  exact hK v' w' r1 r2

/-- A slice of one value of the region's own. -/
def IsOne (w : World) (v x : Value) : Prop := ∃ g, v = .slice (some ⟨g, 0, none⟩) 1 1 ∧ w.cell? ⟨g, 0, none⟩ = some x
/-- What the slot of operation i comes to hold. -/
def OneAt (l : List (Value ⊕ Value)) (i : Nat) (x : Value) (w : World) : Prop :=
  match l[i]? with
  | some (.inl c) => x = c
  | some (.inr c) => IsOne w x c
  | none => True
theorem oneAt_mono (l : List (Value ⊕ Value)) (i : Nat) (x : Value) (w w' : World) (hb : Below w.heap.size w w') (h : OneAt l i x w) : OneAt l i x w' := by
  unfold OneAt at h ⊢
  split
  · rename_i c hc; rw [hc] at h; exact h
  · rename_i c hc
    rw [hc] at h
    obtain ⟨g, hg, hcell⟩ := h
    have hblk : g < w.heap.size := World.block_lt_of_cell? w ⟨g, 0, none⟩ hcell
    exact ⟨g, hg, by rw [hb.cell (p := ⟨g, 0, none⟩) hblk]; exact hcell⟩
  · trivial
theorem isOne_new (w : World) (x : Value) (t : TypeId) : IsOne (w.alloc (.cells #[x] t)) (.slice (some ⟨w.heap.size, 0, none⟩) 1 1) x :=
  ⟨w.heap.size, rfl, by rw [cell_of_row _ _ _ _ _ _ (heap_alloc_new w _)]; rfl⟩
theorem IsOne.news {w : World} {v x : Value} (h : IsOne w v x) : ∃ ad, v = .slice (some ad) 1 1 ∧ ∀ j u, [x][j]? = some u → w.cell? (ad.add j) = some u := by
  obtain ⟨g, hg, hc⟩ := h
  refine ⟨_, hg, fun j u hj => ?_⟩
  match j, hj with
  | 0, hj => 
    obtain rfl : x = u := by simpa using hj
    exact hc
  | j + 1, hj => simp at hj

end Go.Proofs.YtklaaallegidcaaDoor
