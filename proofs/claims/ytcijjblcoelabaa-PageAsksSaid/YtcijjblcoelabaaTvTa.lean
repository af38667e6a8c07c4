/-
  One tree more behind those that were made; append as a step of a drawn region.
-/
import Derived.Test.YtcijjblcoelabaaTvP
import Derived.Deep.RegionLaw
import Derived.Deep.DeepMust
import Derived.Deep.Cut
set_option linter.unusedVariables false
set_option linter.unusedSimpArgs false
namespace Go.Proofs.Ytcijjblcoelabaa
open Go.RowKit

theorem step_append_run {P : Program} {ops : Array Oper} {o : Oper} {a : Act} {w : World} {K : Act → World → Prop} {Q : Exit → Act → World → Prop} {E : Prop}
    (hg : o.guard = none) (s x : Operand) (t t' : TypeId) (hop : o.op = Op.call { callee := Callee.builtin Builtin.append, args := #[s, x], argTypes := #[t, t'] })
    (v u : Value) (hs : a.eval s = v) (hx : a.eval x = u) {v' : Value} {w' : World} (hr : ∀ ty, (Builtin.append_ #[t, t'] ty #[v, u]).run P w = .ok v' w')
    (hK : K (a.put o.dst v') w') : if Region.wanted o (yielded ops a.tmps) = true then Oper.wp P o a w K Q else E := by
  have hw : Region.wanted o (yielded ops a.tmps) = true := by simp [Region.wanted, hg]
  rw [if_pos hw]
  unfold Oper.wp
  simp [execOp, hop, resolve, invoke, builtin, hs, hx, hr, Result.andThen]
  exact hK

/-- One tree more, made by a call, behind those that were made. -/
theorem nds_step {w w2 : World} {base h g k : Nat} {a2 : Option Addr} {c2 : Nat} {xs : List Value} {ns : List Mt.Nd} (hrw : IsRw 76 3 w g (.slice a2 k c2) k xs) (hn : AreNds w (fun b => base ≤ b ∧ b ≠ g) h xs ns) (hk : k = ns.length) (hg : base ≤ g) (hbase : base ≤ w.heap.size)
    {n : Mt.Nd} {x0 x1 x2 : Value} (hx : IsNd w2 (fun b => w.heap.size ≤ b) h (.agg #[x0, x1, x2]) n) (hb : Below w.heap.size w w2) (hlen : (k + 1) * 48 ≤ 140737488355328) :
    ∃ a3 c3 w3 g3 xs3, (∀ ty, (Builtin.append_ #[74, 74] ty #[.slice a2 k c2, .slice (some ⟨w2.heap.size, 0, none⟩) 1 1]).run Try.prog (w2.alloc (.cells #[x0, x1, x2] 76)) = .ok (.slice a3 (k + 1) c3) w3) ∧ IsRw 76 3 w3 g3 (.slice a3 (k + 1) c3) (k + 1) xs3 ∧
      AreNds w3 (fun b => base ≤ b ∧ b ≠ g3) h xs3 (ns ++ [n]) ∧ base ≤ g3 ∧ Below base w2 w3 := by
  subst hk
  have hsz := hb.size
  have hnorm : ∃ g2, IsRw 76 3 w2 g2 (.slice a2 ns.length c2) ns.length xs ∧ AreNds w2 (fun b => base ≤ b ∧ b ≠ g2) h xs ns ∧ base ≤ g2 ∧ IsNd w2 (fun b => base ≤ b ∧ b ≠ g2) h (.agg #[x0, x1, x2]) n := by
    rcases hrw.norm (w2.heap.size + base + 1) with hg1 | hrw1
    · exact ⟨g, hrw.below hb, hn.keep (fun _ h _ => h) (fun b _ hlt => hb.block b hlt), hg, hx.mono (Nat.le_refl _) (fun b hb _ => ⟨by omega, by omega⟩)⟩
    · exact ⟨_, hrw1.below hb, hn.keep (fun b h hlt => ⟨h.1, by omega⟩) (fun b _ hlt => hb.block b hlt), by omega, hx.mono (Nat.le_refl _) (fun b hb hlt => ⟨by omega, by omega⟩)⟩
  obtain ⟨g2, hrw2, hnds2, hg2, hn2⟩ := hnorm
  obtain ⟨v3, w3, g3, hrun, hrw3, hnds3, hg3, ho3, _⟩ := nds_append hrw2 hnds2 hg2 (by omega) hn2 hlen
  obtain ⟨a3, c3, rfl⟩ := hrw3.form
  rw [List.length_append, List.length_singleton] at hrw3 hrun
  exact ⟨a3, c3, w3, g3, _, hrun, hrw3, hnds3, hg3, ho3.toBelow (by simpa using hg2) (by omega)⟩
end Go.Proofs.Ytcijjblcoelabaa
