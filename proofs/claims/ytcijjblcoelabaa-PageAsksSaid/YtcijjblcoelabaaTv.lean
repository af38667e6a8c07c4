/-
  What the calls tlv.single, constructed, readLength, split and strings.Clone come to.
-/
import Derived.Test.YtcijjblcoelabaaTx
import Derived.Test.YtcijjblcoelabaaGet
import Derived.Test.YtcijjblcoelabaaTvMath
import Derived.Test.YtcijjblcoelabaaOnly
import Derived.IntWalk
set_option linter.unusedVariables false
set_option linter.unusedSimpArgs false
namespace Go.Proofs.Ytcijjblcoelabaa
open Go.RowKit

theorem Mt.and31 : ∀ t : Fin 256, bits .and .i64 ((t : Nat) : Int) 31 = ((t % 32 : Nat) : Int) := by decide +kernel
theorem Mt.and32 : ∀ t : Fin 256, bits .and .i64 ((t : Nat) : Int) 32 = (((t / 32 % 2) * 32 : Nat) : Int) := by decide +kernel

theorem single_any (t : Nat) (ht : t < 256) (w : World) : Calls Try.prog 96 #[.int .i64 t] w fun e w' => e = .returned (.bool (decide (t % 32 ≠ 31))) ∧ w = w' := by
  have h := Mt.and31 ⟨t, ht⟩
  simp only at h
  have hx : ((((t % 32 : Nat) : Int)) != 31) = decide (t % 32 ≠ 31) := by
    by_cases e : t % 32 = 31
    · rw [e]; rfl
    · have e2 : (((t % 32 : Nat) : Int)) ≠ 31 := by omega
      rw [decide_eq_true e]; simpa using e2
  generalize ((t % 32 : Nat) : Int) = q at *
  generalize decide (t % 32 ≠ 31) = b at *
  go_enter Try.func96, Try.ntmps96
  go_wp2
  go_ret
  exact ⟨rfl, rfl⟩
theorem constructed_any (t : Nat) (ht : t < 256) (w : World) : Calls Try.prog 91 #[.int .i64 t] w fun e w' => e = .returned (.bool (decide (t / 32 % 2 = 1))) ∧ w = w' := by
  have h := Mt.and32 ⟨t, ht⟩
  simp only at h
  have hx : ((((t / 32 % 2) * 32 : Nat) : Int) != 0) = decide (t / 32 % 2 = 1) := by
    by_cases e : t / 32 % 2 = 1
    · rw [e]; rfl
    · have e2 : t / 32 % 2 = 0 := by omega
      rw [e2]; rfl
  generalize (((t / 32 % 2) * 32 : Nat) : Int) = q at *
  generalize decide (t / 32 % 2 = 1) = b at *
  go_enter Try.func91, Try.ntmps91
  go_wp2
  go_ret
  exact ⟨rfl, rfl⟩

/-- What readLength answers. -/
def lenV : Except Nat (Nat × List UInt8) → Value
  | .error e => .tuple #[.int .i64 0, .string ByteArray.empty, .int .i64 e]
  | .ok (n, x) => .tuple #[.int .i64 n, .string (Mt.str x), .int .i64 0]

set_option maxRecDepth 100000 in
theorem readLength_any (s : ByteArray) (w : World) (hs : s.size ≤ 140737488351232) :
    Calls Try.prog 99 #[.string s] w fun e w' => e = .returned (lenV (Mt.lenL s.data.toList)) ∧ Below w.heap.size w w' := by
  rcases Nat.eq_zero_or_pos s.size with h0 | h0
  · have hn : s.data.toList = [] := List.eq_nil_of_length_eq_zero h0
    have hs0 : s = ⟨#[]⟩ := by
      apply ByteArray.ext
      exact Array.eq_empty_of_size_eq_zero h0
    subst hs0
    go_enter Try.func99, Try.ntmps99
    go_wp2
    refine bodyPost_ret (v := lenV (.error 3)) (by simp [results, Try.results99, go_sem, lenV]; rfl) rfl ⟨rfl, Below.refl _ _⟩
  · obtain ⟨r, hr, hrl, hx1⟩ := Mt.cons_of h0
    have hne1 : s.toList.isEmpty = false := nonempty_str h0
    have hlt := s[0].toNat_lt
    have hd1 : (1 : Int) ≤ s.size := by omega
    by_cases c1 : s[0].toNat < 128
    · have e1 : Mt.lenL s.data.toList = .ok (s[0].toNat, r) := by rw [hr]; simp only [Mt.lenL]; rw [if_pos c1]
      rw [e1]
      clear e1 hr
      go_enter Try.func99, Try.ntmps99
      go_wp2
      go_quiet (fail)
      go_wp2
      refine bodyPost_ret (v := lenV (.ok (s[0].toNat, r))) (by simp [results, Try.results99, go_sem, lenV]) rfl ⟨rfl, below_drewN _ _⟩
    · by_cases c2 : s[0].toNat = 128 ∨ 132 < s[0].toNat
      · have e1 : Mt.lenL s.data.toList = .error 8 := by rw [hr]; simp only [Mt.lenL]; rw [if_neg c1, if_pos c2]
        rw [e1]
        clear e1 hr
        rcases c2 with c2 | c2
        · have c3 : ((s[0].toNat : Int) - 128 == 0) = true := by simp; omega
          go_enter Try.func99, Try.ntmps99
          go_wp2
          refine bodyPost_ret (v := lenV (.error 8)) (by simp [results, Try.results99, go_sem, lenV]; rfl) rfl ⟨rfl, Below.refl _ _⟩
        · have c3 : ((s[0].toNat : Int) - 128 == 0) = false := by simp; omega
          go_enter Try.func99, Try.ntmps99
          go_wp2
          refine bodyPost_ret (v := lenV (.error 8)) (by simp [results, Try.results99, go_sem, lenV]; rfl) rfl ⟨rfl, Below.refl _ _⟩
      · obtain ⟨k, hk, hk1, hk4⟩ : ∃ k : Nat, s[0].toNat = 128 + k ∧ 1 ≤ k ∧ k ≤ 4 := ⟨s[0].toNat - 128, by omega, by omega, by omega⟩
        have hk8 : k ≤ 8 := by omega
        have e0 : s[0].toNat - 128 = k := by omega
        have ei : (s[0].toNat : Int) - 128 = k := by omega
        have ew : IntKind.i64.wrap ((s[0].toNat : Int) - 128) = k := by rw [ei]; exact IntWalk.i64_in _ (by omega)
        have c3 : ((k : Int) == 0) = false := by simp; omega
        have c4 : decide ((4 : Int) < k) = false := by simp; omega
        by_cases c5 : r.length < k
        · have e1 : Mt.lenL s.data.toList = .error 3 := by rw [hr]; simp only [Mt.lenL]; rw [if_neg c1, if_neg c2, e0, if_pos c5]
          rw [e1]
          have HG := Lib.hid (get_far s 1 k w hs (by omega) (by omega) (by omega) (by omega))
          clear e1 hr e0 c2 hk
          go_enter Try.func99, Try.ntmps99
          go_wp2_with (go_at_call 66; refine (HG.out).mono ?_; rintro e w' ⟨rfl, rfl⟩)
          refine bodyPost_ret (v := lenV (.error 3)) (by simp [results, Try.results99, go_sem, lenV]; rfl) rfl ⟨rfl, Below.refl _ _⟩
        · have HG := Lib.hid (get_yes s 1 k w (by omega) hk1 hk8 (by omega))
          have hg := Mt.gn_lt s.data.toList 1 k
          have hg4 : Mt.gn s.data.toList 1 k < 4294967296 := Nat.lt_of_lt_of_le hg (Nat.le_trans (Nat.pow_le_pow_right (by decide) hk4) (by decide))
          clear hg
          by_cases c6 : 1048576 < Mt.gn s.data.toList 1 k
          · have e1 : Mt.lenL s.data.toList = .error 5 := by
              have c6' := c6
              rw [hr] at c6' ⊢; simp only [Mt.lenL]; rw [if_neg c1, if_neg c2, e0, if_neg c5, if_pos c6']
            rw [e1]
            clear e1 hr e0 c2 hk
            generalize Mt.gn s.data.toList 1 k = g at *
            go_enter Try.func99, Try.ntmps99
            go_wp2_with (go_at_call 66; refine (HG.out).mono ?_; rintro e w' ⟨rfl, rfl⟩)
            refine bodyPost_ret (v := lenV (.error 5)) (by simp [results, Try.results99, go_sem, lenV]; rfl) rfl ⟨rfl, Below.refl _ _⟩
          · have e1 : Mt.lenL s.data.toList = .ok (Mt.gn s.data.toList 1 k, r.drop k) := by
              have c6' := c6
              rw [hr] at c6' ⊢; simp only [Mt.lenL]; rw [if_neg c1, if_neg c2, e0, if_neg c5, if_neg c6']
            have hx2 : s.extract (1 + k) s.size = Mt.str (r.drop k) := by
              rw [Mt.extract_drop, hr, Nat.add_comm]; rfl
            have hw1 : IntKind.i64.wrap (1 + (k : Int)) = 1 + (k : Int) := IntWalk.i64_in _ (by omega)
            have hw2 : (1 + (k : Int)).toNat = 1 + k := by omega
            have hw3 : (0 : Int) ≤ 1 + (k : Int) := by omega
            have hw4 : 1 + (k : Int) ≤ s.size := by omega
            rw [e1]
            clear e1 hr e0 c2 hk
            generalize Mt.gn s.data.toList 1 k = g at *
            go_enter Try.func99, Try.ntmps99
            go_wp2_with (go_at_call 66; refine (HG.out).mono ?_; rintro e w' ⟨rfl, rfl⟩)
            go_quiet (fail)
            go_wp2
            refine bodyPost_ret (v := lenV (.ok (g, r.drop k))) (by simp [results, Try.results99, go_sem, lenV]) rfl ⟨rfl, below_drewN _ _⟩
end Go.Proofs.Ytcijjblcoelabaa
