/-
  What kindOf, readAll, piecesOf come to.
-/
import Derived.Test.YtnlbhmjgeedgpaaDoorFtB
import Derived.Test.YtnlbhmjgeedgpaaDoorFtS
set_option linter.unusedVariables false
set_option linter.unusedSimpArgs false
namespace Go.Proofs.YtnlbhmjgeedgpaaDoor
open Go.RowKit

/-! ### kindOf -/
def Mt.lastIs (c : UInt8) (l : List UInt8) : Bool := l.getLast? == some c
def Mt.k2 (l : List UInt8) : Int × List UInt8 := if Mt.lastIs 126 l = true then (8, l.dropLast) else (3, l)
def Mt.k1 (l : List UInt8) : Int × List UInt8 := if Mt.lastIs 60 l = true then (6, l.dropLast) else Mt.k2 l
def Mt.k0 (l : List UInt8) : Int × List UInt8 := if Mt.lastIs 62 l = true then (5, l.dropLast) else Mt.k1 l
def Mt.kT (j : Nat) (l : List UInt8) : Int × List UInt8 := if j = 0 then Mt.k0 l else if j = 1 then Mt.k1 l else if j = 2 then Mt.k2 l else (3, l)
theorem Mt.kT_eq (l : List UInt8) : Mt.kT 0 l = Mt.kOf l := by
  unfold Mt.kOf Mt.kT Mt.k0 Mt.k1 Mt.k2 Mt.lastIs
  rw [if_pos rfl]
  cases l.getLast? with
  | none => rfl
  | some c => simp
theorem Mt.suffix_last (l : List UInt8) (c : UInt8) : Lib.hasSuffix (l ++ [61]) [c, 61] = Mt.lastIs c l ∧ (Mt.lastIs c l = true → Lib.trimSuffix (l ++ [61]) [c, 61] = l.dropLast) := by
  have h : Lib.hasSuffix (l ++ [61]) [c, 61] = Mt.lastIs c l := by
    unfold Lib.hasSuffix Mt.lastIs
    rw [Bool.eq_iff_iff, List.isSuffixOf_iff_suffix]
    constructor
    · rintro ⟨t, ht⟩
      have e : l ++ [61] = (t ++ [c]) ++ [61] := by rw [← ht]; simp
      have := List.append_cancel_right e
      rw [this]; simp
    · intro h
      have h := beq_iff_eq.1 h
      rcases List.eq_nil_or_concat l with rfl | ⟨a, d, rfl⟩
      · cases h
      · rw [List.concat_eq_append] at h ⊢
        simp at h
        subst h
        exact ⟨a, by simp⟩
  refine ⟨h, fun h2 => ?_⟩
  unfold Lib.trimSuffix
  rw [h, if_pos h2]
  have h := beq_iff_eq.1 h2
  rcases List.eq_nil_or_concat l with rfl | ⟨a, d, rfl⟩
  · cases h
  · simp
set_option maxRecDepth 100000 in
theorem cut_size (l : List UInt8) (hs : l.length ≤ 1000000) : (Mt.str l ++ ⟨#[61]⟩).size ≤ 9223372036854775807 := by
  rw [ByteArray.size_append, Mt.str_size]
  show l.length + 1 ≤ _
  omega
set_option maxRecDepth 100000 in
theorem kind_word (l : List UInt8) (c : UInt8) (hs : l.length ≤ 1000000) (w : World) : Calls Tryd.prog 72 #[.string (Mt.str l ++ ⟨#[61]⟩), .string ⟨#[c, 61]⟩] w fun e w' =>
    (∃ x, e = .returned (.tuple #[.string x, .bool (Mt.lastIs c l)]) ∧ (Mt.lastIs c l = true → x = Mt.str l.dropLast)) ∧ w = w' := by
  have hd : (Mt.str l ++ ⟨#[61]⟩).data.toList = l ++ [61] := by simp [Mt.str]
  obtain ⟨h1, h2⟩ := Mt.suffix_last l c
  have hz := cut_size l hs
  generalize (Mt.str l ++ ⟨#[61]⟩) = s at hd hz ⊢
  have hc : (⟨#[c, 61]⟩ : ByteArray).data.toList = [c, 61] := rfl
  generalize (⟨#[c, 61]⟩ : ByteArray) = t at hc ⊢
  refine (ft_cuts s t hz w).mono ?_
  rintro e w' ⟨he, hw⟩
  rw [hd, hc, h1] at he
  refine ⟨⟨_, he, fun hl => ?_⟩, hw⟩
  rw [h2 hl]
set_option maxRecDepth 100000 in
set_option maxHeartbeats 1000000 in
theorem kindOf10_any (l : List UInt8) (hs : l.length ≤ 1000000) (w : World) :
    Calls Tryd.prog 61 #[.string (Mt.str l)] w fun e w' => e = .returned (.tuple #[.int .i64 (Mt.kOf l).1, .string (Mt.str (Mt.kOf l).2)]) ∧ Below w.heap.size w w' := by
  obtain ⟨R1, hR1⟩ : ∃ R, (Mt.kOf l).1 = R := ⟨_, rfl⟩
  obtain ⟨R2, hR2⟩ : ∃ R, (Mt.kOf l).2 = R := ⟨_, rfl⟩
  have HR : Hid (Mt.kT 0 l = (R1, R2)) := Lib.hid (by rw [Mt.kT_eq, ← hR1, ← hR2])
  rw [hR1, hR2]
  have H5 := Lib.hid (kind_word l 62 hs)
  have H6 := Lib.hid (kind_word l 60 hs)
  have H8 := Lib.hid (kind_word l 126 hs)
  clear hR1 hR2
  have hls : (Mt.str l).size ≤ 1000000 := by rw [Mt.str_size]; exact hs
  go_enter Tryd.func61, Tryd.ntmps61
  go_wp2_with fail
  have HB1 := Lib.hid ((Below.refl w.heap.size w).alloc (Nat.le_refl _) (.cells #[.int .i64 5, .int .i64 6, .int .i64 8] 3))
  go_loop [10] (fun jv => ∃ j : Nat, j ≤ 3 ∧ jv = .int .i64 (j : Int) ∧ Hid (Mt.kT j l = (R1, R2))) (fun jv => 3 - (RowKit.intOf jv).toNat)
  case atStart => exact ⟨0, by omega, rfl, HR⟩
  case round =>
    obtain ⟨j, hj, rfl, HRJ⟩ := hrel
    have hj4 : j = 0 ∨ j = 1 ∨ j = 2 ∨ j = 3 := by omega
    clear hj
    rcases hj4 with rfl | rfl | rfl | rfl
    · cases hc : Mt.lastIs 62 l with
      | true =>
        have hR : R1 = 5 ∧ R2 = l.dropLast := by
          have := HRJ.out
          unfold Mt.kT Mt.k0 at this
          rw [if_pos rfl, if_pos hc] at this
          injection this with h1 h2
          exact ⟨h1.symm, h2.symm⟩
        obtain ⟨rfl, rfl⟩ := hR
        rw [hc] at H5
        clear hc
        go_wp2_with fail
        refine (sign10_5 _).mono ?_
        rintro e w2 ⟨rfl, rfl⟩
        go_wp2_with fail
        refine (H5.out _).mono ?_
        rintro e w2 ⟨⟨x, rfl, hx⟩, rfl⟩
        obtain rfl := hx trivial
        go_wp2_with fail
        go_ret2
        exact ⟨rfl, HB1.out⟩
      | false =>
        have hR : Mt.kT 1 l = (R1, R2) := by
          have := HRJ.out
          unfold Mt.kT Mt.k0 at this
          rw [if_pos rfl, if_neg (by rw [hc]; decide)] at this
          exact this
        have HRN := Lib.hid hR
        rw [hc] at H5
        clear hc hR
        go_wp2_with fail
        refine (sign10_5 _).mono ?_
        rintro e w2 ⟨rfl, rfl⟩
        go_wp2_with fail
        refine (H5.out _).mono ?_
        rintro e w2 ⟨⟨x, rfl, hx⟩, rfl⟩
        clear hx
        go_wp2_with fail
        go_round
        case rel => exact ⟨1, by omega, rfl, HRN⟩
        case measure => simp [RowKit.intOf]
    · cases hc : Mt.lastIs 60 l with
      | true =>
        have hR : R1 = 6 ∧ R2 = l.dropLast := by
          have := HRJ.out
          unfold Mt.kT Mt.k1 at this
          rw [if_neg (by decide), if_pos rfl, if_pos hc] at this
          injection this with h1 h2
          exact ⟨h1.symm, h2.symm⟩
        obtain ⟨rfl, rfl⟩ := hR
        rw [hc] at H6
        clear hc
        go_wp2_with fail
        refine (sign10_6 _).mono ?_
        rintro e w2 ⟨rfl, rfl⟩
        go_wp2_with fail
        refine (H6.out _).mono ?_
        rintro e w2 ⟨⟨x, rfl, hx⟩, rfl⟩
        obtain rfl := hx trivial
        go_wp2_with fail
        go_ret2
        exact ⟨rfl, HB1.out⟩
      | false =>
        have hR : Mt.kT 2 l = (R1, R2) := by
          have := HRJ.out
          unfold Mt.kT Mt.k1 at this
          rw [if_neg (by decide), if_pos rfl, if_neg (by rw [hc]; decide)] at this
          exact this
        have HRN := Lib.hid hR
        rw [hc] at H6
        clear hc hR
        go_wp2_with fail
        refine (sign10_6 _).mono ?_
        rintro e w2 ⟨rfl, rfl⟩
        go_wp2_with fail
        refine (H6.out _).mono ?_
        rintro e w2 ⟨⟨x, rfl, hx⟩, rfl⟩
        clear hx
        go_wp2_with fail
        go_round
        case rel => exact ⟨2, by omega, rfl, HRN⟩
        case measure => simp [RowKit.intOf]
    · cases hc : Mt.lastIs 126 l with
      | true =>
        have hR : R1 = 8 ∧ R2 = l.dropLast := by
          have := HRJ.out
          unfold Mt.kT Mt.k2 at this
          rw [if_neg (by decide), if_neg (by decide), if_pos rfl, if_pos hc] at this
          injection this with h1 h2
          exact ⟨h1.symm, h2.symm⟩
        obtain ⟨rfl, rfl⟩ := hR
        rw [hc] at H8
        clear hc
        go_wp2_with fail
        refine (sign10_8 _).mono ?_
        rintro e w2 ⟨rfl, rfl⟩
        go_wp2_with fail
        refine (H8.out _).mono ?_
        rintro e w2 ⟨⟨x, rfl, hx⟩, rfl⟩
        obtain rfl := hx trivial
        go_wp2_with fail
        go_ret2
        exact ⟨rfl, HB1.out⟩
      | false =>
        have hR : Mt.kT 3 l = (R1, R2) := by
          have := HRJ.out
          unfold Mt.kT Mt.k2 at this
          rw [if_neg (by decide), if_neg (by decide), if_pos rfl, if_neg (by rw [hc]; decide)] at this
          exact this
        have HRN := Lib.hid hR
        rw [hc] at H8
        clear hc hR
        go_wp2_with fail
        refine (sign10_8 _).mono ?_
        rintro e w2 ⟨rfl, rfl⟩
        go_wp2_with fail
        refine (H8.out _).mono ?_
        rintro e w2 ⟨⟨x, rfl, hx⟩, rfl⟩
        clear hx
        go_wp2_with fail
        go_round
        case rel => exact ⟨3, by omega, rfl, HRN⟩
        case measure => simp [RowKit.intOf]
    · have hR : R1 = 3 ∧ R2 = l := by
        have := HRJ.out
        unfold Mt.kT at this
        rw [if_neg (by decide), if_neg (by decide), if_neg (by decide)] at this
        injection this with h1 h2
        exact ⟨h1.symm, h2.symm⟩
      obtain ⟨rfl, rfl⟩ := hR
      go_wp2_with fail
      go_ret2
      exact ⟨rfl, HB1.out⟩
end Go.Proofs.YtnlbhmjgeedgpaaDoor
