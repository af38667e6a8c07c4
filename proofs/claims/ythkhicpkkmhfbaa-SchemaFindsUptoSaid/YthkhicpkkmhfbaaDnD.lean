/-
  What the call dn.readValue comes to.
-/
import Derived.Test.YthkhicpkkmhfbaaDnC
import Derived.Test.YthkhicpkkmhfbaaGp
namespace Go.Proofs.Ythkhicpkkmhfbaa
open Go.RowKit

/-- What readValue answers. -/
def valV : Option (List UInt8 × List UInt8) → Value
  | none => .tuple #[.string ByteArray.empty, .string ByteArray.empty, .bool false]
  | some (a, b) => .tuple #[.string (Mt.str a), .string (Mt.str b), .bool true]
theorem Mt.byte_size {l : List UInt8} {c : UInt8} {n : Nat} (h : Mt.byteL l = some (c, n)) : 1 ≤ n ∧ n ≤ l.length := by
  match l with
  | [] => simp [Mt.byteL] at h
  | c :: r =>
    simp only [Mt.byteL] at h
    split at h
    · cases h; simp
    · match r with
      | [] => simp at h
      | d :: r2 =>
        simp only at h
        split at h
        · cases h; simp
        · match r2 with
          | [] => simp at h
          | e :: r3 =>
            simp only at h
            split at h
            · cases h; simp
            · cases h
/-- The fuel plays no part. -/
theorem Mt.valF_more : ∀ (k m : Nat) (v l : List UInt8), l.length < k → l.length < m → Mt.valF k v l = Mt.valF m v l
  | 0, _, _, _, h, _ => by omega
  | _, 0, _, _, _, h => by omega
  | k + 1, m + 1, v, l, h1, h2 => by
    simp only [Mt.valF]
    split
    · rfl
    · cases hb : Mt.byteL l with
      | none => rfl
      | some p =>
        obtain ⟨c, n⟩ := p
        have hn := Mt.byte_size hb
        simp only
        split
        · rfl
        · exact Mt.valF_more k m _ _ (by rw [List.length_drop]; omega) (by rw [List.length_drop]; omega)

def szOf : Value → Nat | .string x => x.size | _ => 0
end Go.Proofs.Ythkhicpkkmhfbaa
