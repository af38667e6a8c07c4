/-
  Rules of append and of string(b) that the walks of bytes lean on; the sixteen digits.
-/
import Derived.Test.YtnlbhmjgeedgpaaDoorPut
import Derived.Deep.RegionLaw
import Derived.Deep.AppendLies
import Derived.Deep.RegionWith
import Derived.Lib.Hide
import Derived.Test.YtnlbhmjgeedgpaaDoorText
set_option linter.unusedVariables false
set_option linter.unusedSimpArgs false
namespace Go.Proofs.YtnlbhmjgeedgpaaDoor
open Go.RowKit

/-- 'append' within the capacity, as a step of a region that draws its order. -/
theorem step_append_fits {P : Program} {ops : Array Oper} {o : Oper} {a : Act} {w : World} {K : Act → World → Prop} {Q : Exit → Act → World → Prop} {E : Prop}
    (hg : o.guard = none) (s x : Operand) (t : TypeId) (hop : o.op = Op.call { callee := Callee.builtin Builtin.append, args := #[s, x], argTypes := #[t, t] })
    (base : Nat) (e : TypeId) (i : TypeInfo) (size : Nat) (h1 : P.underlying t = some (.slice e)) (h2 : P.info? e = some i) (h4 : i.size = size)
    (g k cap : Nat) (xs : List Value) (hs : a.eval s = .slice (some ⟨g, 0, none⟩) k cap) (hown : w.ownsRow base e size (.slice (some ⟨g, 0, none⟩) k cap) k xs) (ad : Addr) (m c : Nat) (news : List Value) (hx : a.eval x = .slice (some ad) m c) (hn : news.length = m * size)
    (hc : ∀ j u, news[j]? = some u → w.cell? (ad.add j) = some u) (h1c : ∀ u ∈ news, u.oneCell' = true) (b1 : k + m ≤ cap)
    (hK : ∀ w', w'.ownsRow base e size (.slice (some ⟨g, 0, none⟩) (k + m) cap) (k + m) (xs ++ news) → w.grownBy w' (some g) → K (a.put o.dst (.slice (some ⟨g, 0, none⟩) (k + m) cap)) w') :
    if Region.wanted o (yielded ops a.tmps) = true then Oper.wp P o a w K Q else E := by
  have hw : Region.wanted o (yielded ops a.tmps) = true := by simp [Region.wanted, hg]
  rw [if_pos hw]
  obtain ⟨w', hrun, r1, r2⟩ := run_append_fits (P := P) w base t o.type e i size h1 h2 h4 g k cap xs hown ad m c news hn hc h1c b1
  unfold Oper.wp
  simp [execOp, hop, resolve, invoke, builtin, hs, hx, hrun, Result.andThen]
  exact hK w' r1 r2

/-- The sixteen digits, as the program's text has them. -/
theorem digit_at (x : Int) (h0 : 0 ≤ x) (h1 : x < 16) : ∃ d : UInt8, (∀ h, (⟨#[48, 49, 50, 51, 52, 53, 54, 55, 56, 57, 97, 98, 99, 100, 101, 102]⟩ : ByteArray)[x.toNat]'h = d) ∧ (d.toNat : Int) = Mt.dg x.toNat := by
  have hx : x.toNat < 16 := by omega
  generalize x.toNat = m at hx ⊢
  have h : m < (⟨#[48, 49, 50, 51, 52, 53, 54, 55, 56, 57, 97, 98, 99, 100, 101, 102]⟩ : ByteArray).size := hx
  refine ⟨(⟨#[48, 49, 50, 51, 52, 53, 54, 55, 56, 57, 97, 98, 99, 100, 101, 102]⟩ : ByteArray)[m]'h, fun _ => rfl, ?_⟩
  match m, hx, h with
  | 0, _, _ => rfl | 1, _, _ => rfl | 2, _, _ => rfl | 3, _, _ => rfl | 4, _, _ => rfl | 5, _, _ => rfl | 6, _, _ => rfl | 7, _, _ => rfl
  | 8, _, _ => rfl | 9, _, _ => rfl | 10, _, _ => rfl | 11, _, _ => rfl | 12, _, _ => rfl | 13, _, _ => rfl | 14, _, _ => rfl | 15, _, _ => rfl
  | m + 16, hx, _ => omega

/-- string(b) of a slice of the call's own. -/
theorem conv_row (l : List UInt8) (B g n cap : Nat) (w : World) (hl : l.length = n) (hown : w.ownsRow B 5 1 (.slice (some ⟨g, 0, none⟩) n cap) n (Mt.cs l)) :
    (convert 54 9 (.slice (some ⟨g, 0, none⟩) n cap)).run Tryd.prog w = .ok (.string (Mt.str l)) w := by
  rw [← Mt.str_nums]
  exact run_convert_bytes_arg (P := Tryd.prog) w 54 5 Tryd.underlying54 Tryd.underlying5 g 0 n cap (l.map fun c => (c.toNat : Int)) (by simpa using hl) (fun i hi => by
    rw [Nat.zero_add, hown.cellAt _ (by omega)]
    simp [Mt.cs, List.getD, List.getElem?_eq_getElem (show i < l.length by omega)]) 9 Tryd.underlying9

/-- string(b[:m]) of a slice of the call's own. -/
theorem conv_take (l : List UInt8) (B g n cap : Nat) (w : World) (hl : l.length = n) (hown : w.ownsRow B 5 1 (.slice (some ⟨g, 0, none⟩) n cap) n (Mt.cs l)) (m : Nat) (hm : m ≤ n) :
    (convert 54 9 (.slice (some ⟨g, 0, none⟩) m cap)).run Tryd.prog w = .ok (.string (Mt.str (l.take m))) w := by
  rw [← Mt.str_nums]
  exact run_convert_bytes_arg (P := Tryd.prog) w 54 5 Tryd.underlying54 Tryd.underlying5 g 0 m cap ((l.take m).map fun c => (c.toNat : Int)) (by simp; omega) (fun i hi => by
    rw [Nat.zero_add, hown.cellAt _ (by omega)]
    simp [Mt.cs, List.getD, List.getElem?_eq_getElem (show i < l.length by omega), hi]) 9 Tryd.underlying9

end Go.Proofs.YtnlbhmjgeedgpaaDoor
