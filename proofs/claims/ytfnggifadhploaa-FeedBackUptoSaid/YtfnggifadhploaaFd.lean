/-
  What the calls feed.size, cut, New, Len come to.
-/
import Derived.Test.YtfnggifadhploaaByt
import Derived.Test.YtfnggifadhploaaGet
import Derived.Test.YtfnggifadhploaaFdMath
import Derived.IntWalk
namespace Go.Proofs.Ytfnggifadhploaa
open Go.RowKit

theorem Mt.ret_two {a b c d : Int} (h : a = c) (h2 : b = d) : Ending.returned (.tuple #[.int .i64 a, .int .i64 b]) = .returned (.tuple #[.int .i64 c, .int .i64 d]) := by rw [h, h2]
theorem Mt.two_of {s : ByteArray} (h : 1 < s.size) : ∃ r, s.data.toList = s[0] :: s[1] :: r ∧ r.length = s.size - 2 := by
  have hl : s.data.toList.length = s.size := rfl
  match hs : s.data.toList with
  | [] => rw [hs] at hl; simp at hl; omega
  | [c] => rw [hs] at hl; simp at hl; omega
  | c :: d :: r =>
    have h0 : s[0] = c := by
      have : s.data.toList[0]'(by omega) = c := by simp [hs]
      exact this
    have h1 : s[1] = d := by
      have : s.data.toList[1]'(by omega) = d := by simp [hs]
      exact this
    refine ⟨r, by rw [h0, h1], by rw [hs] at hl; simp at hl; omega⟩
theorem Mt.one_of {s : ByteArray} (h : s.size = 1) : s.data.toList = [s[0]] := by
  have hl : s.data.toList.length = s.size := rfl
  match hs : s.data.toList with
  | [] => rw [hs] at hl; simp at hl; omega
  | [c] =>
    have h0 : s[0] = c := by
      have : s.data.toList[0]'(by omega) = c := by simp [hs]
      exact this
    rw [h0]
  | c :: d :: r => rw [hs] at hl; simp at hl; omega

set_option maxRecDepth 100000 in
theorem size_any (s : ByteArray) (w : World) (hs : s.size ≤ 140737488351232) :
    Calls Try.prog 58 #[.string s] w fun e w' => e = .returned (.tuple #[.int .i64 (Mt.sizeL s.data.toList).1, .int .i64 (Mt.sizeL s.data.toList).2]) ∧ w = w' := by
  rcases Nat.eq_zero_or_pos s.size with h0 | h0
  · have hn : s.data.toList = [] := List.eq_nil_of_length_eq_zero h0
    rw [hn]
    go_enter Try.func58, Try.ntmps58
    go_wp2
    go_ret2
    exact ⟨rfl, rfl⟩
  · by_cases h48 : s[0].toNat = 48
    · have hx : ((s[0].toNat : Int) != 48) = false := by simp [h48]
      have hy : ((s[0].toNat : Int) == 48) = true := by simp [h48]
      by_cases h1 : s.size = 1
      · rw [Mt.one_of h1]
        have e1 : Mt.sizeL [s[0]] = (0, 0) := by simp [Mt.sizeL, h48]
        rw [e1]
        clear e1
        have hd : decide (s.size < 2) = true := by simp; omega
        go_enter Try.func58, Try.ntmps58
        go_wp2
        go_ret2
        exact ⟨rfl, rfl⟩
      · have h2 : 1 < s.size := by omega
        obtain ⟨r, hr, hrl⟩ := Mt.two_of h2
        have hd : decide (s.size < 2) = false := by simp; omega
        have hlt := s[1].toNat_lt
        have hn48 : ¬ (s[0].toNat ≠ 48) := by simp [h48]
        by_cases c1 : s[1].toNat < 128
        · have e1 : Mt.sizeL s.data.toList = (2 + s[1].toNat, 0) := by rw [hr]; simp only [Mt.sizeL]; rw [if_neg hn48, if_pos c1]
          rw [e1]
          clear e1 hr
          go_enter Try.func58, Try.ntmps58
          go_wp2
          go_ret2
          exact ⟨Mt.ret_two (by omega) rfl, rfl⟩
        · by_cases c2 : s[1].toNat = 128 ∨ 132 < s[1].toNat
          · have e1 : Mt.sizeL s.data.toList = (0, 8) := by rw [hr]; simp only [Mt.sizeL]; rw [if_neg hn48, if_neg c1, if_pos c2]
            rw [e1]
            clear e1 hr
            rcases c2 with c2 | c2
            · have c3 : ((s[1].toNat : Int) - 128 == 0) = true := by simp; omega
              go_enter Try.func58, Try.ntmps58
              go_wp2
              go_ret2
              exact ⟨rfl, rfl⟩
            · have c3 : ((s[1].toNat : Int) - 128 == 0) = false := by simp; omega
              go_enter Try.func58, Try.ntmps58
              go_wp2
              go_ret2
              exact ⟨rfl, rfl⟩
          · obtain ⟨k, hk, hk1, hk4⟩ : ∃ k : Nat, s[1].toNat = 128 + k ∧ 1 ≤ k ∧ k ≤ 4 := ⟨s[1].toNat - 128, by omega, by omega, by omega⟩
            have hk8 : k ≤ 8 := by omega
            have e0 : s[1].toNat - 128 = k := by omega
            have ei : (s[1].toNat : Int) - 128 = k := by omega
            have ew : IntKind.i64.wrap ((s[1].toNat : Int) - 128) = k := by rw [ei]; exact IntWalk.i64_in _ (by omega)
            have c3 : ((k : Int) == 0) = false := by simp; omega
            have c4 : decide ((4 : Int) < k) = false := by simp; omega
            by_cases c5 : r.length < k
            · have e1 : Mt.sizeL s.data.toList = (0, 0) := by rw [hr]; simp only [Mt.sizeL]; rw [if_neg hn48, if_neg c1, if_neg c2, e0, if_pos c5]
              rw [e1]
              have HG := Lib.hid (get_far s 2 k w hs (by omega) (by omega) (by omega) (by omega))
              clear e1 hr e0 c2 hk
              go_enter Try.func58, Try.ntmps58
              go_wp2_with (go_at_call 39; refine (HG.out).mono ?_; rintro e w' ⟨rfl, rfl⟩)
              go_ret2
              exact ⟨rfl, rfl⟩
            · have HG := Lib.hid (get_yes s 2 k w (by omega) hk1 hk8 (by omega))
              have hg := Mt.gn_lt s.data.toList 2 k
              have hg4 : Mt.gn s.data.toList 2 k < 4294967296 := Nat.lt_of_lt_of_le hg (Nat.le_trans (Nat.pow_le_pow_right (by decide) hk4) (by decide))
              clear hg
              by_cases c6 : 1048576 < Mt.gn s.data.toList 2 k
              · have e1 : Mt.sizeL s.data.toList = (0, 5) := by
                  have c6' := c6
                  rw [hr] at c6' ⊢; simp only [Mt.sizeL]; rw [if_neg hn48, if_neg c1, if_neg c2, e0, if_neg c5, if_pos c6']
                rw [e1]
                clear e1 hr e0 c2 hk
                generalize Mt.gn s.data.toList 2 k = g at *
                go_enter Try.func58, Try.ntmps58
                go_wp2_with (go_at_call 39; refine (HG.out).mono ?_; rintro e w' ⟨rfl, rfl⟩)
                go_ret2
                exact ⟨rfl, rfl⟩
              · have e1 : Mt.sizeL s.data.toList = (2 + k + Mt.gn s.data.toList 2 k, 0) := by
                  have c6' := c6
                  rw [hr] at c6' ⊢; simp only [Mt.sizeL]; rw [if_neg hn48, if_neg c1, if_neg c2, e0, if_neg c5, if_neg c6']
                rw [e1]
                clear e1 hr e0 c2 hk
                generalize Mt.gn s.data.toList 2 k = g at *
                go_enter Try.func58, Try.ntmps58
                go_wp2_with (go_at_call 39; refine (HG.out).mono ?_; rintro e w' ⟨rfl, rfl⟩)
                go_ret2
                exact ⟨Mt.ret_two (by omega) rfl, rfl⟩
    · have hx : ((s[0].toNat : Int) != 48) = true := by simp; omega
      have hy : ((s[0].toNat : Int) == 48) = false := by simp; omega
      have e1 : Mt.sizeL s.data.toList = (0, 4) := by
        by_cases h1 : s.size = 1
        · rw [Mt.one_of h1]; simp only [Mt.sizeL]; rw [if_pos h48]
        · obtain ⟨r, hr, _⟩ := Mt.two_of (s := s) (by omega)
          rw [hr]; simp only [Mt.sizeL]; rw [if_pos h48]
      rw [e1]
      clear e1
      go_enter Try.func58, Try.ntmps58
      go_wp2
      go_ret2
      exact ⟨rfl, rfl⟩
end Go.Proofs.Ytfnggifadhploaa
