/-
  What the calls pass.digit, pass.digits, strings.HasPrefix and pass.Stored come to.
-/
import Derived.Test.YtpdionmecflibaaDoorHex
import Derived.Test.YtpdionmecflibaaDoorText
import Derived.Deep.QuietTactic
import Derived.BigQuiet
namespace Go.Proofs.YtpdionmecflibaaDoor
open Go.RowKit

namespace Mt
/-- 0 to 9 and a to f. -/
def dgB (c : UInt8) : Bool := (decide (48 ≤ c.toNat) && decide (c.toNat ≤ 57)) || (decide (97 ≤ c.toNat) && decide (c.toNat ≤ 102))
/-- What a stored password begins with. -/
def front : ByteArray := ⟨#[123, 83, 65, 76, 84, 69, 68, 125]⟩
/-- The form of a stored password. -/
def stored (s : ByteArray) : Bool := decide (s.size = 88) && decide (s.extract 0 8 = front) && (s.extract 8 88).data.toList.all dgB
end Mt

theorem beq_bytes (p f : ByteArray) : (p.toList == f.toList) = decide (p = f) := by
  rw [Bool.eq_iff_iff, decide_eq_true_iff, beq_iff_eq, ByteArray.toList_eq, ByteArray.toList_eq]
  constructor
  · intro h
    cases p; cases f
    simp only at h
    congr 1
    exact Array.toList_inj.1 h
  · rintro rfl; rfl
theorem ret_bool {a b : Bool} (h : a = b) : Ending.returned (.bool a) = .returned (.bool b) := by rw [h]

theorem digit_any (c : UInt8) (w : World) : Calls Tryd.prog 53 #[.int .u8 c.toNat] w fun e w' => e = .returned (.bool (Mt.dgB c)) ∧ w = w' := by
  obtain ⟨n, hn⟩ : ∃ n, c.toNat = n := ⟨_, rfl⟩
  have HB : ∀ b : Bool, (((48 ≤ n ∧ n ≤ 57) ∨ (97 ≤ n ∧ n ≤ 102)) ↔ b = true) → Hid (b = Mt.dgB c) := fun b hb => Lib.hid (by
    unfold Mt.dgB
    rw [hn, Bool.eq_iff_iff, ← hb]
    simp)
  rw [hn]
  by_cases h1 : 48 ≤ n
  · have i1 : (48 : Int) ≤ (n : Int) := by omega
    by_cases h2 : n ≤ 57
    · have i2 : (n : Int) ≤ 57 := by omega
      have HR := HB true (by simp; omega)
      clear HB hn
      go_enter Tryd.func53, Tryd.ntmps53
      go_wp2_with fail
      go_ret
      exact ⟨ret_bool HR.out, rfl⟩
    · have i2 : decide ((n : Int) ≤ 57) = false := by simp; omega
      by_cases h3 : 97 ≤ n
      · have i3 : (97 : Int) ≤ (n : Int) := by omega
        by_cases h4 : n ≤ 102
        · have i4 : (n : Int) ≤ 102 := by omega
          have HR := HB true (by simp; omega)
          clear HB hn
          go_enter Tryd.func53, Tryd.ntmps53
          go_wp2_with fail
          go_ret
          exact ⟨ret_bool HR.out, rfl⟩
        · have i4 : decide ((n : Int) ≤ 102) = false := by simp; omega
          have HR := HB false (by simp; omega)
          clear HB hn
          go_enter Tryd.func53, Tryd.ntmps53
          go_wp2_with fail
          go_ret
          exact ⟨ret_bool HR.out, rfl⟩
      · have i3 : decide ((97 : Int) ≤ (n : Int)) = false := by simp; omega
        have HR := HB false (by simp; omega)
        clear HB hn
        go_enter Tryd.func53, Tryd.ntmps53
        go_wp2_with fail
        go_ret
        exact ⟨ret_bool HR.out, rfl⟩
  · have i1 : decide ((48 : Int) ≤ (n : Int)) = false := by simp; omega
    have i3 : decide ((97 : Int) ≤ (n : Int)) = false := by simp; omega
    have HR := HB false (by simp; omega)
    clear HB hn
    go_enter Tryd.func53, Tryd.ntmps53
    go_wp2_with fail
    go_ret
    exact ⟨ret_bool HR.out, rfl⟩

theorem digits_any (s : ByteArray) (w : World) (hs : s.size ≤ 140737488351232) :
    Calls Tryd.prog 48 #[.string s] w fun e w' => e = .returned (.bool (s.data.toList.all Mt.dgB)) ∧ w = w' := by
  have hgd : ∀ j (h : j < s.size), s.data.toList[j]'h = s[j] := fun j h => rfl
  have HGD := Lib.hid hgd
  have HNO := Lib.hid (fun k (hk : k < s.size) (h : Mt.dgB s[k] = false) => (show false = s.data.toList.all Mt.dgB by
    symm
    rw [List.all_eq_false]
    exact ⟨s[k], List.mem_of_getElem (h := hk) (hgd k hk), by rw [h]; decide⟩))
  have HYES := Lib.hid (fun (h : ∀ j (hj : j < s.size), Mt.dgB s[j] = true) => (show true = s.data.toList.all Mt.dgB by
    symm
    rw [List.all_eq_true]
    intro x hx
    obtain ⟨j, hj, rfl⟩ := List.mem_iff_getElem.1 hx
    exact h j hj))
  clear hgd
  go_enter Tryd.func48, Tryd.ntmps48
  go_wp2
  go_loopw [6] (fun i wr => ∃ k : Nat, k ≤ s.size ∧ i = .int .i64 k ∧ wr = w ∧ Hid (∀ j (hj : j < s.size), j < k → Mt.dgB s[j] = true))
    (fun i _ => s.size - (intOf i).toNat)
  case atStart => exact ⟨0, Nat.zero_le _, rfl, rfl, Lib.hid (fun j _ h => absurd h (Nat.not_lt_zero _))⟩
  case round =>
    obtain ⟨k, hk, rfl, rfl, HA⟩ := hrel
    by_cases hlt : k < s.size
    · obtain ⟨c, hc⟩ : ∃ c, s[k] = c := ⟨_, rfl⟩
      have HC := Lib.hid hc
      cases hd : Mt.dgB c with
      | true =>
        have HD := Lib.hid hd
        have D := Lib.hid (digit_any c)
        rw [hd] at D
        clear hd
        go_wp2_with fail
        refine (D.out _).mono ?_
        rintro e w2 ⟨rfl, rfl⟩
        go_wp2_with fail
        go_roundw
        case rel =>
          refine ⟨k + 1, by omega, by go_num, trivial, Lib.hid (fun j hj h => ?_)⟩
          rcases Nat.lt_or_ge j k with h2 | h2
          · exact HA.out j hj h2
          · obtain rfl : j = k := by omega
            rw [HC.out]; exact HD.out
        case measure => simp [intOf]; omega
      | false =>
        have HN := Lib.hid (HNO.out k hlt (by rw [HC.out]; exact hd))
        have D := Lib.hid (digit_any c)
        rw [hd] at D
        clear hd
        go_wp2_with fail
        refine (D.out _).mono ?_
        rintro e w2 ⟨rfl, rfl⟩
        go_wp2_with fail
        go_ret
        exact ⟨ret_bool HN.out, rfl⟩
    · obtain rfl : k = s.size := by omega
      have HY := Lib.hid (HYES.out (fun j hj => HA.out j hj hj))
      go_wp2
      go_ret
      exact ⟨ret_bool HY.out, rfl⟩

theorem hpl_any (s : ByteArray) (w : World) (hs : s.size = 88) :
    Calls Tryd.prog 52 #[.string s, .string Mt.front] w fun e w' => e = .returned (.bool (decide (s.extract 0 8 = Mt.front))) ∧ w = w' := by
  have hf : Mt.front.size = 8 := rfl
  have h88 : (s.size : Int) = 88 := by omega
  have h8 : (8 : Int) ≤ (s.size : Int) := by omega
  obtain ⟨p, hp⟩ : ∃ p, s.extract 0 8 = p := ⟨_, rfl⟩
  obtain ⟨f, hff⟩ : ∃ f, Mt.front = f := ⟨_, rfl⟩
  rw [hff] at hf
  rw [hp, hff]
  have hf2 : (f.size : Int) = 8 := by omega
  go_enter Tryd.func52, Tryd.ntmps52
  go_wp2
  go_ret
  exact ⟨ret_bool (beq_bytes _ _), rfl⟩

theorem hp_any (s : ByteArray) (w : World) (hs : s.size = 88) :
    Calls Tryd.prog 47 #[.string s, .string Mt.front] w fun e w' => e = .returned (.bool (decide (s.extract 0 8 = Mt.front))) ∧ w = w' := by
  have H := Lib.hid (fun u => hpl_any s u hs)
  obtain ⟨f, hff⟩ : ∃ f, Mt.front = f := ⟨_, rfl⟩
  rw [hff] at H ⊢
  clear hs hff
  go_enter Tryd.func47, Tryd.ntmps47
  go_wp2_with fail
  refine (H.out _).mono ?_
  rintro e w2 ⟨rfl, rfl⟩
  go_wp2
  go_ret
  exact ⟨rfl, rfl⟩

theorem stored_any (s : ByteArray) (w : World) :
    Calls Tryd.prog 41 #[.string s] w fun e w' => e = .returned (.bool (Mt.stored s)) ∧ w = w' := by
  have H1 := Lib.hid (fun hs u => hp_any s u hs)
  have HT := Lib.hid (fun (h : s.size = 88) => show (s.extract 8 88).size = 80 by rw [ByteArray.size_extract]; omega)
  have H2 := Lib.hid (fun (h : (s.extract 8 88).size = 80) u => digits_any (s.extract 8 88) u (by omega))
  have HR := Lib.hid (show Mt.stored s = (decide (s.size = 88) && decide (s.extract 0 8 = Mt.front) && (s.extract 8 88).data.toList.all Mt.dgB) from rfl)
  by_cases hs : s.size = 88
  · have h88 : (s.size : Int) = 88 := by omega
    have HT2 := HT.out hs
    have HH1 := Lib.hid (H1.out hs)
    have HH2 := Lib.hid (H2.out HT2)
    have HD : decide (s.size = 88) = true := by simpa using hs
    rw [HD] at HR
    by_cases hp : s.extract 0 8 = Mt.front
    · have HP : decide (s.extract 0 8 = Mt.front) = true := by simpa using hp
      rw [HP] at HR HH1
      clear H1 H2 HT HD HP hp
      obtain ⟨t, ht⟩ : ∃ t, s.extract 8 88 = t := ⟨_, rfl⟩
      rw [ht] at HR HH2 HT2
      obtain ⟨b, hb⟩ : ∃ b, t.data.toList.all Mt.dgB = b := ⟨_, rfl⟩
      rw [hb] at HR HH2
      clear hb
      have hsl : (8 : Int) ≤ (s.size : Int) := by omega
      go_enter Tryd.func41, Tryd.ntmps41
      go_wp2_with fail
      refine (HH1.out _).mono ?_
      rintro e w2 ⟨rfl, rfl⟩
      go_wp2_with fail
      refine (HH2.out _).mono ?_
      rintro e w2 ⟨rfl, rfl⟩
      go_wp2_with fail
      go_ret
      exact ⟨ret_bool (by rw [HR.out]; rfl), rfl⟩
    · have HP : decide (s.extract 0 8 = Mt.front) = false := by simpa using hp
      rw [HP] at HR HH1
      clear H1 H2 HT HD HP hp HH2 HT2
      go_enter Tryd.func41, Tryd.ntmps41
      go_wp2_with fail
      refine (HH1.out _).mono ?_
      rintro e w2 ⟨rfl, rfl⟩
      go_wp2_with fail
      go_ret
      exact ⟨ret_bool (by rw [HR.out]; rfl), rfl⟩
  · have HD : decide (s.size = 88) = false := by simpa using hs
    rw [HD] at HR
    have h88 : ((s.size : Int) == 88) = false := by simp; omega
    clear H1 H2 HT HD hs
    go_enter Tryd.func41, Tryd.ntmps41
    go_wp2_with fail
    go_ret
    exact ⟨ret_bool (by rw [HR.out]; rfl), rfl⟩

end Go.Proofs.YtpdionmecflibaaDoor
