/-
  Schemas as plain lists: types, classes, where a name stands.
-/
import Derived.Test.YthkhicpkkmhfbaaDnMath
namespace Go.Proofs.Ythkhicpkkmhfbaa.Mt

structure Ty where
  name : List UInt8
  syn : Int
  single : Bool
  oper : Bool
  deriving DecidableEq
structure Cl where
  name : List UInt8
  sup : List UInt8
  kind : Int
  must : List (List UInt8)
  may : List (List UInt8)
  deriving DecidableEq
structure Sc where
  types : List Ty
  classes : List Cl
  deriving DecidableEq

/-- The first place of which something holds; -1, where there is none. -/
def atL {α : Type} (p : α → Bool) (l : List α) : Int := match l.findIdx? p with
  | some i => i
  | none => -1
section
variable {α : Type} {p : α → Bool} {l : List α}
theorem atL_spec (p : α → Bool) (l : List α) : (atL p l = -1 ∧ ∀ j (hj : j < l.length), p l[j] = false) ∨ ∃ m : Nat, atL p l = m ∧ ∃ hm : m < l.length, p l[m] = true ∧ ∀ j (hj : j < m), p (l[j]'(by omega)) = false := by
  unfold atL
  cases hf : l.findIdx? p with
  | none =>
    rw [List.findIdx?_eq_none_iff] at hf
    exact .inl ⟨rfl, fun j hj => hf _ (List.getElem_mem hj)⟩
  | some m =>
    rw [List.findIdx?_eq_some_iff_getElem] at hf
    obtain ⟨hm, h1, h2⟩ := hf
    exact .inr ⟨m, rfl, hm, h1, fun j hj => by have := h2 j hj; simpa using this⟩
theorem atL_range (p : α → Bool) (l : List α) : -1 ≤ atL p l ∧ atL p l < l.length := by
  rcases atL_spec p l with ⟨h, _⟩ | ⟨m, h, hm, _⟩ <;> rw [h] <;> omega
theorem atL_any (p : α → Bool) (l : List α) : decide (0 ≤ atL p l) = l.any p := by
  rcases atL_spec p l with ⟨h, h2⟩ | ⟨m, h, hm, h1, h2⟩
  · rw [h]
    have : l.any p = false := by
      rw [List.any_eq_false]; intro x hx
      obtain ⟨j, hj, rfl⟩ := List.mem_iff_getElem.1 hx
      rw [h2 j hj]; decide
    rw [this]; rfl
  · rw [h]
    have : l.any p = true := by rw [List.any_eq_true]; exact ⟨_, List.getElem_mem hm, h1⟩
    rw [this]; simp
end
/-- A name is that one: the letters' size plays no part. -/
def sameN (a b : List UInt8) : Bool := decide (foldL a = foldL b)
def tyAt (s : Sc) (n : List UInt8) : Int := atL (fun t => sameN t.name n) s.types
def clAt (s : Sc) (n : List UInt8) : Int := atL (fun c => sameN c.name n) s.classes
def noTy : Ty := ⟨[], 0, false, false⟩
def noCl : Cl := ⟨[], [], 0, [], []⟩
/-- The class at a place. -/
def clI (s : Sc) (i : Int) : Cl := s.classes.getD i.toNat noCl
def tyI (s : Sc) (i : Int) : Ty := s.types.getD i.toNat noTy
/-- The place of the Sup of the class at a place. -/
def supAt (s : Sc) (i : Nat) : Int := if clAt s (clI s i).sup ≥ i then -1 else clAt s (clI s i).sup
/-- The places of a chain, from a place on; the second number: so many at most. -/
def chainF (s : Sc) : Nat → Int → List Nat
  | 0, _ => []
  | n + 1, i => if i < 0 then [] else i.toNat :: chainF s n (supAt s i.toNat)
def chain (s : Sc) (n : List UInt8) : List Nat := chainF s s.classes.length (clAt s n)
end Go.Proofs.Ythkhicpkkmhfbaa.Mt
