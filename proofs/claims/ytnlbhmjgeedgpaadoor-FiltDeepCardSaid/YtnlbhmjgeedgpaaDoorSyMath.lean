/-
  What a value's normal form is; which value is ahead; what has pieces.
-/
import Derived.Test.YtnlbhmjgeedgpaaDoorSnMath
import Derived.Test.YtnlbhmjgeedgpaaDoorDnMath
import Derived.Lib.ValidLaws
import Derived.Lib.IndexMore
import Derived.Lib.Strings
set_option linter.unusedVariables false
set_option linter.unusedSimpArgs false
namespace Go.Proofs.YtnlbhmjgeedgpaaDoor.Mt
open Go.Lib

/-! ### times -/
def lastD (y m : Nat) : Nat := if m = 2 then (if (y % 4 = 0 ∧ y % 100 ≠ 0) ∨ y % 400 = 0 then 29 else 28) else if m = 4 ∨ m = 6 ∨ m = 9 ∨ m = 11 then 30 else 31
def okT (y m d h i s : Nat) : Bool := decide (1 ≤ m ∧ m ≤ 12 ∧ 1 ≤ d ∧ d ≤ lastD y m ∧ h ≤ 23 ∧ i ≤ 59 ∧ s ≤ 59)
def seg (l : List UInt8) (a b : Nat) : Nat := ten 0 ((l.drop a).take (b - a))
def okD (l : List UInt8) : Bool := okT (seg l 0 4) (seg l 4 6) (seg l 6 8) (seg l 8 10) (seg l 10 12) (seg l 12 14)
def timeB (l : List UInt8) : Bool := decide (l.length = 15) && decide (∀ c ∈ l.take 14, isD c) && decide (l.drop 14 = [90]) && okD (l.take 14)

/-! ### normal forms -/
def asciiB (l : List UInt8) : Bool := l.all fun c => decide (c.toNat < 128)
def truthB (l : List UInt8) : Bool := decide (l = [84, 82, 85, 69]) || decide (l = [70, 65, 76, 83, 69])
def validS (syn : Int) (l : List UInt8) : Bool :=
  if syn = 1 ∨ syn = 2 then decide (l ≠ []) && validD l
  else if syn = 3 then asciiB l
  else if syn = 4 then (numV l).isSome
  else if syn = 5 then truthB l
  else if syn = 7 then true
  else if syn = 8 then timeB l
  else false
def normS (syn : Int) (l : List UInt8) : Option (List UInt8) :=
  if 4096 < l.length then none
  else if syn = 6 then (match keyL l with
    | .ok k => some k
    | .error _ => none)
  else if validS syn l = false then none
  else if syn = 1 ∨ syn = 3 then some (prep l) else some l
/-- What a call answers of it. -/
def optT (o : Option (List UInt8)) : List UInt8 := o.getD []

/-! ### order -/
def orderS (syn : Int) (a b : List UInt8) : Int × Bool := match normS syn a, normS syn b with
  | some x, some y => if syn = 1 ∨ syn = 2 ∨ syn = 3 ∨ syn = 8 then (compareBytes x y, true)
    else if syn = 4 then (if (numV x).getD 0 < (numV y).getD 0 then -1 else if (numV y).getD 0 < (numV x).getD 0 then 1 else 0, true)
    else (0, false)
  | _, _ => (0, false)

/-! ### pieces -/
abbrev Pc := Int × List UInt8
def stepL (s : List UInt8) (k : Int) (t : List UInt8) : List UInt8 × Bool :=
  if k = 0 then (trimPrefix s t, hasPrefix s t)
  else if k = 2 then ([], hasSuffix s t)
  else ((cut s t).2.1, (cut s t).2.2)
def hasPs (f : List UInt8 → List UInt8) : List UInt8 → List Pc → Bool
  | _, [] => true
  | s, p :: r => if (stepL s p.1 (f p.2)).2 then hasPs f (stepL s p.1 (f p.2)).1 r else false
def pieceB (p : Pc) (first last : Bool) : Bool := decide (p.2 ≠ []) && (if p.1 = 0 then first else if p.1 = 1 then true else if p.1 = 2 then last else false)
/-- Pieces from a place on. -/
def piecesF (n : Nat) : Nat → List Pc → Bool
  | _, [] => true
  | i, p :: r => pieceB p (decide (i = 0)) (decide (i + 1 = n)) && piecesF n (i + 1) r
def soundB (ps : List Pc) : Bool := decide (0 < ps.length) && piecesF ps.length 0 ps
def likeS (syn : Int) (l : List UInt8) (ps : List Pc) : Bool × Bool := match normS syn l with
  | some s => if soundB ps then (if syn = 1 ∨ syn = 3 then (hasPs foldL s ps, true) else if syn = 2 then (hasPs id s ps, true) else (false, false)) else (false, false)
  | none => (false, false)
end Go.Proofs.YtnlbhmjgeedgpaaDoor.Mt
