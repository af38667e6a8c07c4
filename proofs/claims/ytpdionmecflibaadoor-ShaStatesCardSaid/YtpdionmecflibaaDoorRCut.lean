/-
  The loops and the regions of the document's Sum256, taken out of its translation.
-/
import Derived.Test.YtpdionmecflibaaDoorOwnB
import Derived.Test.YtpdionmecflibaaDoorWrite
import Derived.Test.YtpdionmecflibaaDoorPrimes
import Derived.Test.YtpdionmecflibaaDoorRRound
import Derived.Test.YtpdionmecflibaaDoorLast2
namespace Go.Proofs.YtpdionmecflibaaDoor
open Go.RowKit

/-- The body of the n-th loop, or how many are still to be passed. -/
def nthLoop : Code → Nat → Sum Code Nat
  | .loop c, 0 => .inl c
  | .loop c, n + 1 => nthLoop c n
  | .seq a b, n => match nthLoop a n with
    | .inl c => .inl c
    | .inr m => nthLoop b m
  | .block _ c, n => nthLoop c n
  | .scope c, n => nthLoop c n
  | .cond _ a b, n => match nthLoop a n with
    | .inl c => .inl c
    | .inr m => nthLoop b m
  | _, n => .inr n
/-- The region of that number. -/
def region : Code → Nat → Option Code
  | .region i ops d, n => if i = n then some (.region i ops d) else none
  | .loop c, n => region c n
  | .seq a b, n => match region a n with
    | some c => some c
    | none => region b n
  | .block _ c, n => region c n
  | .scope c, n => region c n
  | .cond _ a b, n => match region a n with
    | some c => some c
    | none => region b n
  | _, _ => none
noncomputable def rbody (n : Nat) : Code := match nthLoop (Tryd.f10.body.getD .skip) n with
  | .inl c => c
  | .inr _ => .skip
noncomputable def rreg (n : Nat) : Code := (region (Tryd.f10.body.getD .skip) n).getD .skip

end Go.Proofs.YtpdionmecflibaaDoor
