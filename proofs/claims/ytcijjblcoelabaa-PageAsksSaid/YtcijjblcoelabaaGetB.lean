/-
  What the call octet.Get comes to, at every text, place and count.
-/
import Derived.Test.YtcijjblcoelabaaPut
import Derived.Test.YtcijjblcoelabaaText
set_option linter.unusedVariables false
set_option linter.unusedSimpArgs false
namespace Go.Proofs.Ytcijjblcoelabaa
open Go.RowKit

theorem get_size (s : ByteArray) (at' size : Int) (w : World) (h : size < 1 ∨ 8 < size) :
    Calls Try.prog 66 #[.string s, .int .i64 at', .int .i64 size] w fun e w' => e = .returned (.tuple #[.int .u64 0, .bool false]) ∧ w = w' := by
  go_enter Try.func66, Try.ntmps66
  go_wp2_with (go_at_call 75; refine (fits_no _ _ h).mono ?_; rintro e w' ⟨rfl, rfl⟩)
  go_ret2
  exact ⟨rfl, rfl⟩

theorem get_neg (s : ByteArray) (at' size : Int) (w : World) (h1 : 1 ≤ size) (h2 : size ≤ 8) (h : at' < 0) :
    Calls Try.prog 66 #[.string s, .int .i64 at', .int .i64 size] w fun e w' => e = .returned (.tuple #[.int .u64 0, .bool false]) ∧ w = w' := by
  go_enter Try.func66, Try.ntmps66
  go_wp2_with (go_at_call 75; refine (fits_yes _ _ h1 h2).mono ?_; rintro e w' ⟨rfl, rfl⟩)
  go_ret2
  exact ⟨rfl, rfl⟩

theorem get_far (s : ByteArray) (at' size : Int) (w : World) (hs : s.size ≤ 140737488351232) (h1 : 1 ≤ size) (h2 : size ≤ 8) (h0 : 0 ≤ at') (h : (s.size : Int) - size < at') :
    Calls Try.prog 66 #[.string s, .int .i64 at', .int .i64 size] w fun e w' => e = .returned (.tuple #[.int .u64 0, .bool false]) ∧ w = w' := by
  have hd : decide (at' < 0) = false := by simp; omega
  go_enter Try.func66, Try.ntmps66
  go_wp2_with (go_at_call 75; refine (fits_yes _ _ h1 h2).mono ?_; rintro e w' ⟨rfl, rfl⟩)
  go_ret2
  exact ⟨rfl, rfl⟩

set_option maxHeartbeats 400000 in
set_option maxRecDepth 100000 in
theorem get_yes (s : ByteArray) (a size : Nat) (w : World) (hs : s.size ≤ 281474976710700) (h1 : 1 ≤ size) (h2 : size ≤ 8) (h : a + size ≤ s.size) :
    Calls Try.prog 66 #[.string s, .int .i64 a, .int .i64 size] w fun e w' => e = .returned (.tuple #[.int .u64 (Mt.gn s.data.toList a size), .bool true]) ∧ w = w' := by
  have hd : decide ((a : Int) < 0) = false := by simp
  have hd2 : decide ((s.size : Int) - (size : Int) < (a : Int)) = false := by simp; omega
  have hs2 : (size : Int) ≤ 8 := by omega
  go_enter Try.func66, Try.ntmps66
  go_wp2_with (go_at_call 75; refine (fits_yes _ _ (by omega) (by omega)).mono ?_; rintro e w' ⟨rfl, rfl⟩)
  go_loop [8, 26] (fun n i => ∃ k : Nat, k ≤ size ∧ i = .int .i64 k ∧ n = .int .u64 (Mt.gn s.data.toList a k)) (fun _ i => size - (intOf i).toNat)
  case atStart => exact ⟨0, Nat.zero_le _, rfl, rfl⟩
  case round =>
    obtain ⟨k, hk, rfl, rfl⟩ := hrel
    by_cases hlt : k < size
    · have hg := Mt.gn_lt56 s.data.toList a k (by omega)
      have HG := Lib.hid (show Mt.gn s.data.toList a (k + 1) = 256 * Mt.gn s.data.toList a k + (s.data.toList.getD (a + k) 0).toNat from rfl)
      obtain ⟨g, hge⟩ : ∃ g, Mt.gn s.data.toList a k = g := ⟨_, rfl⟩
      rw [hge] at hg HG ⊢
      clear hge
      have hin : a + k < s.size := by omega
      have hce : s.data.toList.getD (a + k) 0 = s[a + k] := by
        simp [List.getD, List.getElem?_eq_getElem (show a + k < s.data.toList.length by simpa using hin)]; rfl
      rw [hce] at HG
      clear hce
      obtain ⟨c, hc⟩ : ∃ c, s[a + k] = c := ⟨_, rfl⟩
      rw [hc] at HG
      have hc256 : (c.toNat : Int) < 256 := by have := c.toNat_lt; omega
      have hor := Mt.or_byte (g : Int) c.toNat (by omega) (by omega) (by omega) hc256
      have HGB := Lib.hid hg
      clear hg
      have HOR := Lib.hid hor
      clear hor
      go_wp2
      go_round
      case rel =>
        refine ⟨k + 1, by omega, by go_num, ?_⟩
        have hw : IntKind.u64.wrap ((g : Int) * 256) = (g : Int) * 256 := by
          have := HGB.out
          simp [IntKind.wrap, IntKind.bits, IntKind.signed]; omega
        rw [hw, HOR.out, HG.out]
        congr 1; omega
      case measure => simp [intOf]; omega
    · go_wp2
      go_ret2
      obtain rfl : k = size := by omega
      exact ⟨rfl, rfl⟩

end Go.Proofs.Ytcijjblcoelabaa
