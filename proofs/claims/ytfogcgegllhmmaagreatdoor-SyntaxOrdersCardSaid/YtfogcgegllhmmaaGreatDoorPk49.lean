/-
  Some texts of one proof, one behind the other.
-/
import Derived.Lib.Bytealg
import Derived.Test.YtfogcgegllhmmaaGreatDoorPk4
set_option linter.unusedVariables false
set_option linter.unusedSimpArgs false

/-
  The order is one.
-/
namespace Go.Proofs.YtfogcgegllhmmaaGreatDoor.Mt
open Go.Lib

theorem cmp_in : ∀ a b : List UInt8, compareBytes a b = -1 ∨ compareBytes a b = 0 ∨ compareBytes a b = 1
  | [], [] => .inr (.inl rfl)
  | [], _ :: _ => .inl rfl
  | _ :: _, [] => .inr (.inr rfl)
  | a :: la, b :: lb => by
    rw [show compareBytes (a :: la) (b :: lb) = if a < b then -1 else if b < a then 1 else compareBytes la lb from rfl]
    split
    · exact .inl rfl
    · split
      · exact .inr (.inr rfl)
      · exact cmp_in la lb
theorem u8_tri (a b : UInt8) : a < b ∧ ¬ b < a ∧ a ≠ b ∨ a = b ∧ ¬ a < b ∨ b < a ∧ ¬ a < b ∧ a ≠ b := by
  rw [UInt8.lt_iff_toNat_lt, UInt8.lt_iff_toNat_lt, ← UInt8.toNat_inj, ne_eq, ← UInt8.toNat_inj]
  omega
theorem cmp_back : ∀ a b : List UInt8, compareBytes b a = -compareBytes a b
  | [], [] => rfl
  | [], _ :: _ => rfl
  | _ :: _, [] => rfl
  | a :: la, b :: lb => by
    rw [show compareBytes (a :: la) (b :: lb) = if a < b then -1 else if b < a then 1 else compareBytes la lb from rfl,
      show compareBytes (b :: lb) (a :: la) = if b < a then -1 else if a < b then 1 else compareBytes lb la from rfl]
    rcases u8_tri a b with ⟨h1, h2, _⟩ | ⟨rfl, h⟩ | ⟨h1, h2, _⟩
    · rw [if_pos h1, if_neg h2, if_pos h1]; rfl
    · rw [if_neg h, if_neg h, if_neg h, if_neg h]; exact cmp_back la lb
    · rw [if_pos h1, if_neg h2, if_pos h1]
theorem cmp_same : ∀ a b : List UInt8, compareBytes a b = 0 ↔ a = b
  | [], [] => by simp [compareBytes]
  | [], _ :: _ => by simp [compareBytes]
  | _ :: _, [] => by simp [compareBytes]
  | a :: la, b :: lb => by
    rw [show compareBytes (a :: la) (b :: lb) = if a < b then -1 else if b < a then 1 else compareBytes la lb from rfl]
    rcases u8_tri a b with ⟨h1, h2, h3⟩ | ⟨rfl, h⟩ | ⟨h1, h2, h3⟩
    · rw [if_pos h1]; simp [h3]
    · rw [if_neg h, if_neg h, cmp_same la lb]; simp
    · rw [if_neg h2, if_pos h1]; simp [h3]
theorem cmp_on : ∀ a b c : List UInt8, compareBytes a b ≤ 0 → compareBytes b c ≤ 0 → compareBytes a c ≤ 0
  | [], _, [] => fun _ _ => by decide
  | [], _, _ :: _ => fun _ _ => by show (-1 : Int) ≤ 0; decide
  | a :: la, [], c => fun h _ => absurd h (by show ¬ (1 : Int) ≤ 0; decide)
  | a :: la, b :: lb, [] => fun _ h => absurd h (by show ¬ (1 : Int) ≤ 0; decide)
  | a :: la, b :: lb, c :: lc => by
    rw [show compareBytes (a :: la) (b :: lb) = if a < b then -1 else if b < a then 1 else compareBytes la lb from rfl,
      show compareBytes (b :: lb) (c :: lc) = if b < c then -1 else if c < b then 1 else compareBytes lb lc from rfl,
      show compareBytes (a :: la) (c :: lc) = if a < c then -1 else if c < a then 1 else compareBytes la lc from rfl]
    have ih := cmp_on la lb lc
    intro h1 h2
    rcases u8_tri a b with ⟨p1, p2, p3⟩ | ⟨rfl, p⟩ | ⟨p1, p2, p3⟩
    · rcases u8_tri b c with ⟨q1, q2, q3⟩ | ⟨rfl, q⟩ | ⟨q1, q2, q3⟩
      · rw [if_pos (by rw [UInt8.lt_iff_toNat_lt] at *; omega)]; decide
      · rw [if_pos p1]; decide
      · rw [if_neg q2, if_pos q1] at h2; exact absurd h2 (by decide)
    · rcases u8_tri a c with ⟨q1, q2, q3⟩ | ⟨rfl, q⟩ | ⟨q1, q2, q3⟩
      · rw [if_pos q1]; decide
      · rw [if_neg p, if_neg p] at h1 h2 ⊢; exact ih h1 h2
      · rw [if_neg q2, if_pos q1] at h2; exact absurd h2 (by decide)
    · rw [if_neg p2, if_pos p1] at h1; exact absurd h1 (by decide)

/-- Which of three is ahead of which: nothing else can be. -/
def Rank (x y z back : Int) (e : Bool) : Prop := (x = -1 ∨ x = 0 ∨ x = 1) ∧ (y = -1 ∨ y = 0 ∨ y = 1) ∧ (z = -1 ∨ z = 0 ∨ z = 1) ∧ back = -x ∧ e = decide (x = 0) ∧ (x ≤ 0 → y ≤ 0 → z ≤ 0) ∧ (0 ≤ x → 0 ≤ y → 0 ≤ z)
theorem rank_cmp (A B C : List UInt8) : Rank (compareBytes A B) (compareBytes B C) (compareBytes A C) (compareBytes B A) (decide (A = B)) := by
  refine ⟨cmp_in A B, cmp_in B C, cmp_in A C, cmp_back A B, ?_, cmp_on A B C, fun h1 h2 => ?_⟩
  · rw [decide_eq_decide]; exact (cmp_same A B).symm
  · have := cmp_on C B A (by rw [cmp_back B C]; omega) (by rw [cmp_back A B]; omega)
    rw [cmp_back A C] at this
    omega
def sgn (a b : Int) : Int := if a < b then -1 else if b < a then 1 else 0
theorem rank_num (a b c : Int) : Rank (sgn a b) (sgn b c) (sgn a c) (sgn b a) (decide (a = b)) := by
  unfold Rank sgn
  refine ⟨?_, ?_, ?_, ?_, ?_, ?_, ?_⟩
  · split
    · simp
    · split <;> simp
  · split
    · simp
    · split <;> simp
  · split
    · simp
    · split <;> simp
  · by_cases h : a < b
    · rw [if_neg (by omega), if_pos h, if_pos h]; rfl
    · by_cases g : b < a
      · rw [if_pos g, if_neg h, if_pos g]
      · rw [if_neg g, if_neg h, if_neg h, if_neg g]; rfl
  · rw [decide_eq_decide]
    by_cases h : a < b
    · rw [if_pos h]; constructor <;> intro k <;> omega
    · rw [if_neg h]
      by_cases g : b < a
      · rw [if_pos g]; constructor <;> intro k <;> omega
      · rw [if_neg g]; constructor <;> intro k <;> omega
  · repeat' split
    all_goals omega
  · repeat' split
    all_goals omega
/-- Three values of a syntax. -/
theorem order_rank {syn : Int} {a b c : List UInt8} (h1 : (orderS syn a b).2 = true) (h2 : (orderS syn b c).2 = true) :
    ∃ A B, normS syn a = some A ∧ normS syn b = some B ∧ ∃ x y z back, orderS syn a b = (x, true) ∧ orderS syn b c = (y, true) ∧ orderS syn a c = (z, true) ∧ orderS syn b a = (back, true) ∧ Rank x y z back (decide (A = B)) := by
  cases hA : normS syn a with
  | none => rw [orderS, hA] at h1; cases h1
  | some A =>
    cases hB : normS syn b with
    | none => rw [orderS, hA, hB] at h1; cases h1
    | some B =>
      cases hC : normS syn c with
      | none => rw [orderS, hB, hC] at h2; cases h2
      | some C =>
        refine ⟨A, B, rfl, rfl, ?_⟩
        simp only [orderS, hA, hB, hC] at h1 h2 ⊢
        by_cases g : syn = 1 ∨ syn = 2 ∨ syn = 3 ∨ syn = 8
        · simp only [if_pos g]
          exact ⟨_, _, _, _, rfl, rfl, rfl, rfl, rank_cmp A B C⟩
        · simp only [if_neg g] at h1 h2 ⊢
          by_cases g4 : syn = 4
          · simp only [if_pos g4]
            subst g4
            have num : ∀ {l L : List UInt8}, normS 4 l = some L → ∃ k, numV L = some k := by
              intro l L h
              unfold normS at h
              split at h
              · cases h
              · rw [if_neg (by decide)] at h
                split at h
                · cases h
                · rename_i hv
                  rw [if_neg (by decide)] at h
                  obtain rfl := Option.some.inj h
                  unfold validS at hv
                  rw [if_neg (by decide), if_neg (by decide), if_pos rfl] at hv
                  cases hk : numV l with
                  | none => rw [hk] at hv; exact absurd rfl hv
                  | some k => exact ⟨k, rfl⟩
            obtain ⟨ka, ea⟩ := num hA
            obtain ⟨kb, eb⟩ := num hB
            obtain ⟨kc, ec⟩ := num hC
            rw [ea, eb, ec]
            have e : decide (A = B) = decide (ka = kb) := by
              rw [decide_eq_decide]
              constructor
              · rintro rfl
                rw [ea] at eb
                exact Option.some.inj eb
              · rintro rfl
                rw [← ((numV_iff A ka).1 ea).2, ← ((numV_iff B ka).1 eb).2]
            rw [e]
            exact ⟨_, _, _, _, rfl, rfl, rfl, rfl, rank_num ka kb kc⟩
          · rw [if_neg g4] at h1
            cases h1
end Go.Proofs.YtfogcgegllhmmaaGreatDoor.Mt
