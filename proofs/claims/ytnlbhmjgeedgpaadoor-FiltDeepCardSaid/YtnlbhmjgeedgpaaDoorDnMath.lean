/-
  Names in plain lists: types, values, RDNs; reading, writing, keys. Nothing of the program stands here.
-/
import Derived.Test.YtnlbhmjgeedgpaaDoorUnhexMath
set_option linter.unusedVariables false
set_option linter.unusedSimpArgs false
namespace Go.Proofs.YtnlbhmjgeedgpaaDoor.Mt

/-- A type and a value. -/
abbrev Av := List UInt8 × List UInt8

def letN (n : Nat) : Bool := decide (65 ≤ n ∧ n ≤ 90 ∨ 97 ≤ n ∧ n ≤ 122)
def digN (n : Nat) : Bool := decide (48 ≤ n ∧ n ≤ 57)
def tyN (n : Nat) : Bool := letN n || digN n || decide (n = 45)
/-- Whether a text is a type. -/
def typL : List UInt8 → Bool
  | [] => false
  | c :: r => decide (r.length < 32) && letN c.toNat && r.all fun c => tyN c.toNat
def foldL (l : List UInt8) : List UInt8 := l.map sm
def hasL (r : List Av) (t : List UInt8) : Bool := r.any fun a => decide (foldL a.1 = foldL t)

/-- A value is at its end. -/
def endsL : List UInt8 → Bool
  | [] => true
  | c :: _ => decide (c = 44 ∨ c = 43)
/-- One of those behind a backslash. -/
def specN (n : Nat) : Bool := decide (n = 34 ∨ n = 43 ∨ n = 44 ∨ n = 59 ∨ n = 60 ∨ n = 62 ∨ n = 92 ∨ n = 32 ∨ n = 35 ∨ n = 61)
/-- A byte of a value, and in how many bytes it is written. -/
def byteL : List UInt8 → Option (UInt8 × Nat)
  | [] => none
  | c :: r => if c ≠ 92 then some (c, 1) else match r with
    | [] => none
    | d :: r2 => if specN d.toNat then some (d, 2) else match r2 with
      | [] => none
      | e :: _ => match hv d.toNat, hv e.toNat with
        | some x, some y => some (UInt8.ofNat (16 * x + y), 3)
        | _, _ => none
def guardN (n : Nat) (first last : Bool) : Bool :=
  decide (n = 0 ∨ n = 34 ∨ n = 43 ∨ n = 44 ∨ n = 59 ∨ n = 60 ∨ n = 62 ∨ n = 92) || (decide (n = 32) && (first || last)) || (decide (n = 35) && first)
/-- The rest of a value, and what is behind it. -/
def valF : Nat → List UInt8 → List UInt8 → Option (List UInt8 × List UInt8)
  | 0, _, _ => none
  | k + 1, v, l => if endsL l then some (v, l) else match byteL l with
    | none => none
    | some (c, n) => if decide (n = 1) && guardN c.toNat v.isEmpty (endsL (l.drop n)) then none else valF k (v ++ [c]) (l.drop n)
def valL (l : List UInt8) : Option (List UInt8 × List UInt8) := valF (l.length + 1) [] l

/-- What is ahead of the first equals sign, and behind it. -/
def cutE : List UInt8 → Option (List UInt8 × List UInt8)
  | [] => none
  | c :: r => if c = 61 then some ([], r) else match cutE r with
    | none => none
    | some (a, b) => some (c :: a, b)
/-- An RDN, and what is behind it. -/
def rdnF : Nat → List Av → List UInt8 → Except Nat (List Av × List UInt8)
  | 0, _, _ => .error 9
  | k + 1, acc, l => match cutE l with
    | none => .error 4
    | some (t, r) => if !typL t then .error 4 else if hasL acc t then .error 21 else match valL r with
      | none => .error 4
      | some (v, r2) => match r2 with
        | 43 :: l2 => rdnF k (acc ++ [(t, v)]) l2
        | _ => .ok (acc ++ [(t, v)], r2)
def dnF : Nat → List (List Av) → List UInt8 → Except Nat (List (List Av))
  | 0, _, _ => .error 9
  | k + 1, acc, l => match rdnF 8 [] l with
    | .error e => .error e
    | .ok (r, rest) => match rest with
      | [] => .ok (acc ++ [r])
      | _ :: l2 => dnF k (acc ++ [r]) l2
/-- The name of a text. -/
def dnL (l : List UInt8) : Except Nat (List (List Av)) := if 4096 < l.length then .error 5 else if l = [] then .ok [] else dnF 32 [] l

/-- A value as it is written. -/
def wrF (first : Bool) : List UInt8 → List UInt8
  | [] => []
  | c :: r => (if c = 0 then [92, 48, 48] else if guardN c.toNat first r.isEmpty then [92, c] else [c]) ++ wrF false r
def wrL (v : List UInt8) : List UInt8 := wrF true v
def avL (a : Av) : List UInt8 := a.1 ++ [61] ++ wrL a.2
def plainA (a : Av) : Av := (foldL a.1, prep a.2)
def leB (a b : List UInt8) : Bool := decide (a ≤ b)
def speltL (r : List Av) : List (List UInt8) := r.map avL
def normL (r : List Av) : List (List UInt8) := (r.map fun a => avL (plainA a)).mergeSort leB
/-- The text of a name whose RDNs are written so. -/
def textL (f : List Av → List (List UInt8)) (d : List (List Av)) : List UInt8 := [44].intercalate (d.map fun r => [43].intercalate (f r))

/-- What is wrong with an RDN, from a place on. -/
def askA (r : List Av) : Nat → List Av → Nat
  | _, [] => 0
  | i, a :: t => if i = 8 then 9 else if !typL a.1 then 20 else if hasL (r.take i) a.1 then 21 else askA r (i + 1) t
def askR (r : List Av) : Nat := if r = [] then 2 else askA r 0 r
def askF : Nat → List (List Av) → Nat
  | _, [] => 0
  | i, r :: t => if i = 32 then 9 else if askR r ≠ 0 then askR r else askF (i + 1) t
def longR (r : List Av) : Bool := r.any fun a => decide (4096 < a.2.length)
/-- What is wrong with a name first, but for the length of its text. -/
def askD (d : List (List Av)) : Nat := if askF 0 d ≠ 0 then askF 0 d else if d.any longR then 5 else 0
def printD (d : List (List Av)) : Except Nat (List UInt8) := if askD d ≠ 0 then .error (askD d) else if 4096 < (textL speltL d).length then .error 5 else .ok (textL speltL d)
def keyD (d : List (List Av)) : Except Nat (List UInt8) := match printD d with
  | .error e => .error e
  | .ok _ => .ok (textL normL d)
def keyL (l : List UInt8) : Except Nat (List UInt8) := match dnL l with
  | .error e => .error e
  | .ok d => keyD d
def underD (d base : List (List Av)) : Bool := match printD d, keyD base with
  | .ok _, .ok k => decide (base.length ≤ d.length) && decide (textL normL (d.drop (d.length - base.length)) = k)
  | _, _ => false
end Go.Proofs.YtnlbhmjgeedgpaaDoor.Mt
