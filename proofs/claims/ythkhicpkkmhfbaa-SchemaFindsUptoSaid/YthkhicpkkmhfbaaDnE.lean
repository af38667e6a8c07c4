/-
  What the call dn.readRDN comes to.
-/
import Derived.Test.YthkhicpkkmhfbaaDnD
namespace Go.Proofs.Ythkhicpkkmhfbaa
open Go.RowKit

/-- The cells of types and values. -/
def avs (r : List Mt.Av) : List Value := r.flatMap fun a => [.string (Mt.str a.1), .string (Mt.str a.2)]
theorem avs_length : ∀ r : List Mt.Av, (avs r).length = r.length * 2
  | [] => rfl
  | a :: r => by
    have := avs_length r
    simp only [avs, List.flatMap_cons, List.length_append, List.length_cons, List.length_nil] at this ⊢
    omega
theorem avs_append (a b : List Mt.Av) : avs (a ++ b) = avs a ++ avs b := by simp [avs]
theorem avs_one (r : List Mt.Av) : ∀ u ∈ avs r, u.oneCell' = true := by
  intro u hu
  simp only [avs, List.mem_flatMap] at hu
  obtain ⟨a, _, h⟩ := hu
  simp at h
  rcases h with rfl | rfl <;> rfl
theorem avs_get : ∀ (r : List Mt.Av) (j : Nat) (hj : j < r.length), (avs r)[j * 2]? = some (.string (Mt.str r[j].1)) ∧ (avs r)[j * 2 + 1]? = some (.string (Mt.str r[j].2))
  | [], j, hj => by simp at hj
  | a :: r, 0, _ => ⟨rfl, rfl⟩
  | a :: r, j + 1, hj => by
    have h := avs_get r j (by simpa using hj)
    have e : avs (a :: r) = .string (Mt.str a.1) :: .string (Mt.str a.2) :: avs r := rfl
    rw [e, show (j + 1) * 2 = j * 2 + 2 by omega]
    exact h
theorem Mt.typ_len {l : List UInt8} (h : Mt.typL l = true) : l.length ≤ 32 := by
  match l with
  | [] => simp
  | c :: r => simp [Mt.typL] at h; simp; omega
theorem Mt.cut_len : ∀ {l a b : List UInt8}, Mt.cutE l = some (a, b) → a.length + b.length + 1 = l.length
  | [], a, b, h => by simp [Mt.cutE] at h
  | c :: r, a, b, h => by
    simp only [Mt.cutE] at h
    split at h
    · cases h; simp
    · cases hr : Mt.cutE r with
      | none => rw [hr] at h; cases h
      | some p =>
        obtain ⟨x, y⟩ := p
        rw [hr] at h; cases h
        have := Mt.cut_len hr
        simp; omega
theorem Mt.valF_len : ∀ {k : Nat} {v l a b : List UInt8}, Mt.valF k v l = some (a, b) → a.length + b.length ≤ v.length + l.length ∧ b.length ≤ l.length
  | 0, v, l, a, b, h => by simp [Mt.valF] at h
  | k + 1, v, l, a, b, h => by
    simp only [Mt.valF] at h
    split at h
    · cases h; exact ⟨Nat.le_refl _, Nat.le_refl _⟩
    · cases hb : Mt.byteL l with
      | none => rw [hb] at h; cases h
      | some p =>
        obtain ⟨c, n⟩ := p
        have hn := Mt.byte_size hb
        rw [hb] at h
        simp only at h
        split at h
        · cases h
        · have := Mt.valF_len h
          simp only [List.length_drop, List.length_append, List.length_singleton] at this
          omega
theorem Mt.valL_len {l a b : List UInt8} (h : Mt.valL l = some (a, b)) : a.length ≤ l.length ∧ b.length ≤ l.length := by
  have := Mt.valF_len h
  simp only [List.length_nil] at this
  omega

end Go.Proofs.Ythkhicpkkmhfbaa
