/-
  What the journal's small calls on sectors come to: cells, Need, marked, number.
-/
import Derived.Test.YtmahkgkhnpffeaaGetB
import Derived.Test.YtmahkgkhnpffeaaJrMath
import Derived.Test.YtmahkgkhnpffeaaOnly
import Derived.IntWalk
import Derived.WalkSpells
import Derived.WalkLawsBesides
import Derived.Deep.QuietTactic
import Derived.BigQuiet
namespace Go.Proofs.Ytmahkgkhnpffeaa
open Go.RowKit

set_option maxRecDepth 100000 in
theorem cells_any (n : Nat) (w : World) (hn : n ≤ 140737488355328) : Calls Try.prog 19 #[.int .i64 n] w fun e w' => e = .returned (.int .i64 (Mt.cellsN n : Int)) ∧ w = w' := by
  have HR := Lib.hid (show (Mt.cellsN n : Int) = ((max 1 ((n + 109) / 110) : Nat) : Int) from rfl)
  generalize (Mt.cellsN n : Int) = r at HR ⊢
  go_enter Try.func19, Try.ntmps19
  go_wp2
  all_goals
    go_ret
    exact ⟨Mt.ret_int (by rw [HR.out]; omega), rfl⟩
set_option maxRecDepth 100000 in
theorem need_no (n : Int) (w : World) (h : n < 0 ∨ 262144 < n) : Calls Try.prog 7 #[.int .i64 n] w fun e w' => e = .returned (.int .i64 0) ∧ w = w' := by
  rcases h with h | h
  · go_enter Try.func7, Try.ntmps7
    go_wp2_with fail
    go_ret
    exact ⟨rfl, rfl⟩
  · have hd : decide (n < 0) = false := decide_eq_false (by omega)
    go_enter Try.func7, Try.ntmps7
    go_wp2_with fail
    go_ret
    exact ⟨rfl, rfl⟩
set_option maxRecDepth 100000 in
theorem need_yes (n : Nat) (w : World) (h : n ≤ 262144) : Calls Try.prog 7 #[.int .i64 n] w fun e w' => e = .returned (.int .i64 (Mt.cellsN n : Int)) ∧ w = w' := by
  have HC := Lib.hid (cells_any n w (by omega))
  have hd : decide ((n : Int) < 0) = false := decide_eq_false (by omega)
  have hd2 : decide ((262144 : Int) < n) = false := decide_eq_false (by omega)
  go_enter Try.func7, Try.ntmps7
  go_wp2_with fail
  refine (HC.out).mono ?_
  rintro e w' ⟨rfl, rfl⟩
  go_wp2_with fail
  go_ret
  exact ⟨rfl, rfl⟩
theorem number_any (s : ByteArray) (a size : Nat) (w : World) (hs : s.size ≤ 281474976710700) (h1 : 1 ≤ size) (h2 : size ≤ 8) (h : a + size ≤ s.size) :
    Calls Try.prog 48 #[.string s, .int .i64 a, .int .i64 size] w fun e w' => e = .returned (.int .u64 (Mt.gn s.data.toList a size : Int)) ∧ w = w' := by
  have HC := Lib.hid (get_yes s a size w hs h1 h2 h)
  clear hs h1 h2 h
  go_enter Try.func48, Try.ntmps48
  go_wp2_with fail
  refine (HC.out).mono ?_
  rintro e w' ⟨rfl, rfl⟩
  go_wp2_with fail
  go_ret
  exact ⟨rfl, rfl⟩
set_option maxRecDepth 100000 in
theorem marked_short (s : ByteArray) (m : UInt8) (w : World) (h : s.size ≠ 128) : Calls Try.prog 47 #[.string s, .string ⟨#[m]⟩] w fun e w' => e = .returned (.bool false) ∧ w = w' := by
  have hd : ((s.size : Int) == 128) = false := by simp; omega
  go_enter Try.func47, Try.ntmps47
  go_wp2_with fail
  go_ret
  exact ⟨rfl, rfl⟩
theorem Mt.mark_eq (s : ByteArray) (m : UInt8) (h : s.size = 128) : (s.extract 4 5).data.toList = [s.data.toList.getD 4 0] := by
  have hl : s.data.toList.length = 128 := h
  rw [ByteArray.data_extract, Array.toList_extract]
  unfold List.extract
  have e : s.data.toList.drop 4 = s.data.toList.getD 4 0 :: s.data.toList.drop 5 := by
    rw [List.drop_eq_getElem_cons (by omega)]
    simp [List.getD, List.getElem?_eq_getElem (show 4 < s.data.toList.length by omega)]
  rw [e]; rfl
set_option maxRecDepth 100000 in
theorem marked_any (s : ByteArray) (m : UInt8) (w : World) (h : s.size = 128) : Calls Try.prog 47 #[.string s, .string ⟨#[m]⟩] w fun e w' => e = .returned (.bool (decide (s.data.toList.getD 4 0 = m))) ∧ w = w' := by
  have hd : ((s.size : Int) == 128) = true := by simp; omega
  have h0 : (4 : Int) ≤ 5 := by omega
  have h1 : (5 : Int) ≤ (s.size : Int) := by omega
  have HM := Lib.hid (Mt.mark_eq s m h)
  clear h
  go_enter Try.func47, Try.ntmps47
  go_wp2_with fail
  go_ret
  refine ⟨Mt.ret_bool ?_, rfl⟩
  rw [Bool.eq_iff_iff]
  simp only [beq_iff_eq, decide_eq_true_eq, ByteArray.toList_eq]
  rw [HM.out]
  simp
end Go.Proofs.Ytmahkgkhnpffeaa
