/-
  Some texts of one proof, one behind the other.
-/
import Derived.ProofKit
import Derived.Deep.QuietTactic
import Derived.BigQuiet
import Derived.Test.YtdfpnhdamkogcaaGreatDoorPk3
import Derived.Test.YtdfpnhdamkogcaaGreatDoorPk4
set_option linter.unusedVariables false
set_option linter.unusedSimpArgs false

/-
  The document's digits, and the number that they are.
-/
namespace Go.Proofs.YtdfpnhdamkogcaaGreatDoor
open Go.RowKit Go.Lib

theorem digs_no {s : ByteArray} (k : Nat) (h : k < s.size) (hn : ¬ Mt.isD s[k]) : Mt.digs s.data.toList = false := by
  rw [Bool.eq_false_iff]
  intro hd
  exact hn (((Mt.digs_iff _).1 hd).2 _ (List.getElem_mem (l := s.data.toList) (n := k) h))
theorem digs_yes {s : ByteArray} (h : ∀ k (h : k < s.size), Mt.isD s[k]) : Mt.digs s.data.toList = decide (0 < s.size) := by
  have hl : s.data.toList.length = s.size := rfl
  by_cases h0 : 0 < s.size
  · rw [decide_eq_true (by omega)]
    refine (Mt.digs_iff _).2 ⟨fun e => by rw [e] at hl; simp at hl; omega, fun c hc => ?_⟩
    obtain ⟨k, hk, rfl⟩ := List.mem_iff_getElem.1 hc
    exact h k hk
  · rw [decide_eq_false (by omega), Bool.eq_false_iff]
    intro hd
    have := ((Mt.digs_iff _).1 hd).1
    exact this (List.eq_nil_of_length_eq_zero (by omega))
set_option maxRecDepth 100000 in
theorem rdigits_any (s : ByteArray) (hs : s.size ≤ 9223372036854775806) (w : World) : Calls Tryz.prog 45 #[.string s] w fun e w' => e = .returned (.bool (Mt.digs s.data.toList)) ∧ w = w' := by
  have HNO := Lib.hid (fun k h hn => digs_no (s := s) k h hn)
  have HYES := Lib.hid (digs_yes (s := s))
  generalize Mt.digs s.data.toList = Z at *
  have hs2 : (s.size : Int) ≤ 9223372036854775806 := by omega
  go_enter Tryz.func45, Tryz.ntmps45
  go_wp2_with fail
  go_loopw [3] (fun i wr => ∃ (k : Nat), i = .int .i64 k ∧ k ≤ s.size ∧ Hid (∀ j (h : j < s.size), j < k → Mt.isD s[j]) ∧ wr = w) (fun i _ => s.size - (intOf i).toNat)
  case atStart => exact ⟨0, rfl, Nat.zero_le _, Lib.hid (fun j _ h => absurd h (Nat.not_lt_zero _)), rfl⟩
  case round =>
    obtain ⟨k, rfl, hk, HE, rfl⟩ := hrel
    by_cases hlt : k < s.size
    · have i1 : (k : Int) < (s.size : Int) := by omega
      have i2 : decide ((k : Int) < (s.size : Int)) = true := decide_eq_true i1
      have HN := Lib.hid (HNO.out k hlt)
      have HD := Lib.hid (show s[k] = s[k] from rfl)
      obtain ⟨X, hX⟩ : ∃ X, s[k].toNat = X := ⟨_, rfl⟩
      by_cases h1 : X < 48
      · have HZ := Lib.hid (HN.out (by unfold Mt.isD; omega))
        have g1 : decide ((X : Int) < 48) = true := decide_eq_true (by omega)
        go_wp2_with fail
        go_ret
        exact ⟨by rw [HZ.out]; rfl, rfl⟩
      · have g1 : decide ((X : Int) < 48) = false := decide_eq_false (by omega)
        by_cases h2 : 57 < X
        · have HZ := Lib.hid (HN.out (by unfold Mt.isD; omega))
          have g2 : decide ((57 : Int) < (X : Int)) = true := decide_eq_true (by omega)
          go_wp2_with fail
          go_ret
          exact ⟨by rw [HZ.out]; rfl, rfl⟩
        · have g2 : decide ((57 : Int) < (X : Int)) = false := decide_eq_false (by omega)
          have HI := Lib.hid (show Mt.isD s[k] by unfold Mt.isD; omega)
          go_wp2_with fail
          go_roundw
          case rel =>
            refine ⟨k + 1, rfl, by omega, Lib.hid fun j hj hjk => ?_, trivial⟩
            by_cases e : j = k
            · subst e; exact HI.out
            · exact HE.out j hj (by omega)
          case measure => show s.size - (((k + 1 : Nat) : Int)).toNat < s.size - ((k : Nat) : Int).toNat; omega
    · have hke : k = s.size := by omega
      subst hke
      have i2 : decide ((s.size : Int) < (s.size : Int)) = false := decide_eq_false (by omega)
      have HZ := Lib.hid (HYES.out (fun j hj => HE.out j hj hj))
      go_wp2_with fail
      go_ret
      exact ⟨by rw [HZ.out]; rfl, rfl⟩

theorem ten_at (s : ByteArray) (k : Nat) (h : k < s.size) : Mt.ten 0 (s.data.toList.take (k + 1)) = Mt.ten 0 (s.data.toList.take k) * 10 + (s[k].toNat - 48) := by
  have hl : k < s.data.toList.length := h
  rw [List.take_succ_eq_append_getElem hl, Mt.ten_snoc]
  rfl
set_option maxRecDepth 100000 in
theorem rnum_any (s : ByteArray) (hd : ∀ c ∈ s.data.toList, Mt.isD c) (h4 : s.size ≤ 4) (w : World) : Calls Tryz.prog 48 #[.string s] w fun e w' => e = .returned (.int .i64 (Mt.ten 0 s.data.toList : Int)) ∧ w = w' := by
  have HD := Lib.hid hd
  have HS := Lib.hid h4
  have hs4 : (s.size : Int) ≤ 4 := by omega
  have HE := Lib.hid (show s.data.toList.take s.size = s.data.toList from List.take_of_length_le (Nat.le_refl _))
  clear hd h4
  go_enter Tryz.func48, Tryz.ntmps48
  go_wp2_with fail
  go_loopw [3, 4] (fun n i wr => ∃ (k : Nat), i = .int .i64 k ∧ k ≤ s.size ∧ n = .int .i64 (Mt.ten 0 (s.data.toList.take k) : Int) ∧ wr = w) (fun _ i _ => s.size - (intOf i).toNat)
  case atStart => exact ⟨0, rfl, Nat.zero_le _, rfl, rfl⟩
  case round =>
    obtain ⟨k, rfl, hk, rfl, rfl⟩ := hrel
    by_cases hlt : k < s.size
    · have i1 : (k : Int) < (s.size : Int) := by omega
      have i2 : decide ((k : Int) < (s.size : Int)) = true := decide_eq_true i1
      have hi : Mt.isD s[k] := HD.out _ (List.getElem_mem (l := s.data.toList) (n := k) hlt)
      unfold Mt.isD at hi
      have HT := Lib.hid (ten_at s k hlt)
      obtain ⟨N, hN⟩ : ∃ N, Mt.ten 0 (s.data.toList.take k) = N := ⟨_, rfl⟩
      have hltN : N < 10000 := by
        have h1 := Mt.ten_lt (s.data.toList.take k) (fun c hc => HD.out c (List.mem_of_mem_take hc))
        rw [hN, List.length_take] at h1
        have h2 : 10 ^ min k s.data.toList.length ≤ 10 ^ 4 := Nat.pow_le_pow_right (by decide) (by have := HS.out; omega)
        have h3 : (10 : Nat) ^ 4 = 10000 := by decide
        omega
      rw [hN] at HT ⊢
      obtain ⟨X, hX⟩ : ∃ X, s[k].toNat = X := ⟨_, rfl⟩
      rw [hX] at HT hi
      have hX1 : (48 : Int) ≤ (X : Int) := by omega
      have hX2 : (X : Int) ≤ 57 := by omega
      have hN1 : (N : Int) < 10000 := by omega
      have hN0 : (0 : Int) ≤ (N : Int) := by omega
      have HV := Lib.hid (show 10 * (N : Int) + ((X : Int) - 48) = (Mt.ten 0 (s.data.toList.take (k + 1)) : Int) by rw [HT.out]; omega)
      clear hN hi hltN HT
      go_wp2_with fail
      go_roundw
      case rel => exact ⟨k + 1, rfl, by omega, by rw [← HV.out], trivial⟩
      case measure => show s.size - (((k + 1 : Nat) : Int)).toNat < s.size - ((k : Nat) : Int).toNat; omega
    · have hke : k = s.size := by omega
      subst hke
      have i2 : decide ((s.size : Int) < (s.size : Int)) = false := decide_eq_false (by omega)
      rw [HE.out]
      go_wp2_with fail
      go_ret
      exact ⟨rfl, rfl⟩
end Go.Proofs.YtdfpnhdamkogcaaGreatDoor
