/-
  What the calls dn.letter, digit, Type, guarded and ends come to.
-/
import Derived.Test.YtfogcgegllhmmaaGreatDoorDnMath
import Derived.Test.YtfogcgegllhmmaaGreatDoorTx
import Derived.Laws.RangeAny
import Derived.Laws.RangeString
namespace Go.Proofs.YtfogcgegllhmmaaGreatDoor
open Go.RowKit

theorem letter_int (x : Int) (h0 : 0 ≤ x) (w : World) : Calls Tryz.prog 115 #[.int .i32 x] w fun e w' => e = .returned (.bool (Mt.letN x.toNat)) ∧ w = w' := by
  have hx : Mt.letN x.toNat = ((decide (65 ≤ x) && decide (x ≤ 90)) || (decide (97 ≤ x) && decide (x ≤ 122))) := by
    unfold Mt.letN
    rw [Bool.eq_iff_iff]; simp; omega
  rw [hx]; clear hx h0
  obtain ⟨b1, h1⟩ : ∃ b, decide ((65 : Int) ≤ x) = b := ⟨_, rfl⟩
  obtain ⟨b2, h2⟩ : ∃ b, decide (x ≤ (90 : Int)) = b := ⟨_, rfl⟩
  obtain ⟨b3, h3⟩ : ∃ b, decide ((97 : Int) ≤ x) = b := ⟨_, rfl⟩
  obtain ⟨b4, h4⟩ : ∃ b, decide (x ≤ (122 : Int)) = b := ⟨_, rfl⟩
  rw [h1, h2, h3, h4]
  cases b1 <;> cases b2 <;> cases b3 <;> cases b4 <;> (go_enter Tryz.func115, Tryz.ntmps115; go_wp2; go_ret; exact ⟨rfl, rfl⟩)

theorem digit_int (x : Int) (h0 : 0 ≤ x) (w : World) : Calls Tryz.prog 116 #[.int .i32 x] w fun e w' => e = .returned (.bool (Mt.digN x.toNat)) ∧ w = w' := by
  have hx : Mt.digN x.toNat = (decide (48 ≤ x) && decide (x ≤ 57)) := by
    unfold Mt.digN
    rw [Bool.eq_iff_iff]; simp; omega
  rw [hx]; clear hx h0
  obtain ⟨b1, h1⟩ : ∃ b, decide ((48 : Int) ≤ x) = b := ⟨_, rfl⟩
  obtain ⟨b2, h2⟩ : ∃ b, decide (x ≤ (57 : Int)) = b := ⟨_, rfl⟩
  rw [h1, h2]
  cases b1 <;> cases b2 <;> (go_enter Tryz.func116, Tryz.ntmps116; go_wp2; go_ret; exact ⟨rfl, rfl⟩)

theorem guarded_int (x : Int) (h0 : 0 ≤ x) (f l : Bool) (w : World) : Calls Tryz.prog 121 #[.int .u8 x, .bool f, .bool l] w fun e w' => e = .returned (.bool (Mt.guardN x.toNat f l)) ∧ w = w' := by
  by_cases h : x = 0 ∨ x = 34 ∨ x = 43 ∨ x = 44 ∨ x = 59 ∨ x = 60 ∨ x = 62 ∨ x = 92
  · have hg : Mt.guardN x.toNat f l = true := by unfold Mt.guardN; rw [decide_eq_true (by omega)]; rfl
    rw [hg]; clear hg
    rcases h with rfl | rfl | rfl | rfl | rfl | rfl | rfl | rfl <;> (go_enter Tryz.func121, Tryz.ntmps121; go_wp2; go_ret; exact ⟨rfl, rfl⟩)
  · have e1 : (x == 0) = false := by simp; omega
    have e2 : (x == 34) = false := by simp; omega
    have e3 : (x == 43) = false := by simp; omega
    have e4 : (x == 44) = false := by simp; omega
    have e5 : (x == 59) = false := by simp; omega
    have e6 : (x == 60) = false := by simp; omega
    have e7 : (x == 62) = false := by simp; omega
    have e8 : (x == 92) = false := by simp; omega
    have hg : Mt.guardN x.toNat f l = ((decide (x = 32) && (f || l)) || (decide (x = 35) && f)) := by
      unfold Mt.guardN; rw [decide_eq_false (by omega)]
      have a1 : decide (x.toNat = 32) = decide (x = 32) := by rw [Bool.eq_iff_iff]; simp; omega
      have a2 : decide (x.toNat = 35) = decide (x = 35) := by rw [Bool.eq_iff_iff]; simp; omega
      rw [a1, a2]; rfl
    rw [hg]; clear hg h
    by_cases h1 : x = 32
    · subst h1
      clear e1 e2 e3 e4 e5 e6 e7 e8
      cases f <;> cases l <;> (go_enter Tryz.func121, Tryz.ntmps121; go_wp2; go_ret; exact ⟨rfl, rfl⟩)
    · by_cases h2 : x = 35
      · subst h2
        clear e1 e2 e3 e4 e5 e6 e7 e8
        cases f <;> (go_enter Tryz.func121, Tryz.ntmps121; go_wp2; go_ret; exact ⟨rfl, rfl⟩)
      · have e9 : (x == 32) = false := by simp; omega
        have e10 : (x == 35) = false := by simp; omega
        rw [decide_eq_false h1, decide_eq_false h2]
        clear h1 h2 h0
        go_enter Tryz.func121, Tryz.ntmps121
        go_wp2
        go_ret
        exact ⟨rfl, rfl⟩

theorem Mt.ends_str (s : ByteArray) (h : 0 < s.size) : Mt.endsL s.data.toList = (decide ((s[0].toNat : Int) = 44) || decide ((s[0].toNat : Int) = 43)) := by
  obtain ⟨r, hr, _, _⟩ := Mt.cons_of h
  rw [hr]
  simp only [Mt.endsL]
  have e1 : s[0] = 44 ↔ (s[0].toNat : Int) = 44 := ⟨fun e => by rw [e]; rfl, fun e => Mt.u8_ext (by show s[0].toNat = 44; omega)⟩
  have e2 : s[0] = 43 ↔ (s[0].toNat : Int) = 43 := ⟨fun e => by rw [e]; rfl, fun e => Mt.u8_ext (by show s[0].toNat = 43; omega)⟩
  rw [Bool.eq_iff_iff]; simp only [decide_eq_true_eq, Bool.or_eq_true, e1, e2]
theorem ends_any (s : ByteArray) (w : World) : Calls Tryz.prog 119 #[.string s] w fun e w' => e = .returned (.bool (Mt.endsL s.data.toList)) ∧ w = w' := by
  rcases Nat.eq_zero_or_pos s.size with h0 | h0
  · have hs0 : s = ⟨#[]⟩ := by
      apply ByteArray.ext
      exact Array.eq_empty_of_size_eq_zero h0
    subst hs0
    go_enter Tryz.func119, Tryz.ntmps119
    go_wp2
    go_ret
    exact ⟨rfl, rfl⟩
  · have hne1 : s.toList.isEmpty = false := nonempty_str h0
    rw [Mt.ends_str s h0]
    obtain ⟨b1, h1⟩ : ∃ b, ((s[0].toNat : Int) == 44) = b := ⟨_, rfl⟩
    obtain ⟨b2, h2⟩ : ∃ b, ((s[0].toNat : Int) == 43) = b := ⟨_, rfl⟩
    have HR : Hid ((decide ((s[0].toNat : Int) = 44) || decide ((s[0].toNat : Int) = 43)) = (b1 || b2)) := by rw [← h1, ← h2]; exact Lib.hid rfl
    rw [HR.out]
    cases b1 <;> cases b2 <;> (go_enter Tryz.func119, Tryz.ntmps119; go_wp2; go_ret; exact ⟨rfl, rfl⟩)
end Go.Proofs.YtfogcgegllhmmaaGreatDoor
