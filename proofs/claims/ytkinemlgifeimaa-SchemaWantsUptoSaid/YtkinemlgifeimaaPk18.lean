/-
  Some texts of one proof, one behind the other.
-/
import Derived.Lib.Bytealg
import Derived.Test.YtkinemlgifeimaaPk0
import Derived.Test.YtkinemlgifeimaaPk7
set_option linter.unusedVariables false
set_option linter.unusedSimpArgs false

/-
  strings.IndexByte, strings.Cut at one byte, strings.HasPrefix at one byte.
-/
namespace Go.Proofs.Ytkinemlgifeimaa
open Go.RowKit

/-- What Cut at an equals sign answers. -/
def cutV (l : List UInt8) : Value := match Mt.cutE l with
  | none => .tuple #[.string (Mt.str l), .string ByteArray.empty, .bool false]
  | some (a, b) => .tuple #[.string (Mt.str a), .string (Mt.str b), .bool true]
theorem Mt.cut_index : ∀ l : List UInt8, (Mt.cutE l = none ∧ Lib.indexByte l 61 = -1) ∨ ∃ a b, Mt.cutE l = some (a, b) ∧ Lib.indexByte l 61 = (a.length : Int) ∧ l = a ++ 61 :: b
  | [] => .inl ⟨rfl, rfl⟩
  | c :: r => by
    by_cases h : c = 61
    · subst h
      exact .inr ⟨[], r, by simp [Mt.cutE], by simp [Lib.indexByte], rfl⟩
    · have hb : (c == 61) = false := by simpa using h
      rcases Mt.cut_index r with ⟨h1, h2⟩ | ⟨a, b, h1, h2, h3⟩
      · exact .inl ⟨by simp [Mt.cutE, h, h1], by simp [Lib.indexByte, hb, h2]⟩
      · refine .inr ⟨c :: a, b, by simp [Mt.cutE, h, h1], ?_, by rw [h3]; rfl⟩
        have hn : (((a.length : Int)) == -1) = false := by simp
        simp only [Lib.indexByte, hb, h2, hn]
        rfl
end Go.Proofs.Ytkinemlgifeimaa
