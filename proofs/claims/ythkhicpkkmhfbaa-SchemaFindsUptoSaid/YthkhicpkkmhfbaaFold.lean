/-
  What the calls octet.small, endsBlank, Fold and Prep come to, at every text.
-/
import Derived.Test.YthkhicpkkmhfbaaHex
namespace Go.Proofs.Ythkhicpkkmhfbaa
open Go.RowKit

theorem small_any (c : UInt8) (w : World) : Calls Try.prog 66 #[.int .u8 c.toNat] w fun e w' => e = .returned (.int .u8 (Mt.sm c).toNat) ∧ w = w' := by
  have hs := Mt.sm_toNat c
  unfold Mt.smN at hs
  have hlt := c.toNat_lt
  generalize (Mt.sm c).toNat = m at hs
  generalize c.toNat = n at hs hlt
  by_cases h : 65 ≤ n ∧ n ≤ 90
  · rw [if_pos h] at hs
    have HS := Lib.hid hs
    clear hs
    have h1 : (65 : Int) ≤ (n : Int) := by omega
    have h2 : (n : Int) ≤ 90 := by omega
    go_enter Try.func66, Try.ntmps66
    go_wp2
    go_ret
    exact ⟨Mt.ret_int (by rw [HS.out]; omega), rfl⟩
  · rw [if_neg h] at hs
    have HS := Lib.hid hs
    clear hs
    by_cases h1 : 65 ≤ n
    · have h2 : decide ((n : Int) ≤ 90) = false := by simp; omega
      have h1 : (65 : Int) ≤ (n : Int) := by omega
      clear h
      go_enter Try.func66, Try.ntmps66
      go_wp2
      go_ret
      exact ⟨Mt.ret_int (by rw [HS.out]), rfl⟩
    · have h2 : decide ((65 : Int) ≤ (n : Int)) = false := by simp; omega
      clear h
      go_enter Try.func66, Try.ntmps66
      go_wp2
      go_ret
      exact ⟨Mt.ret_int (by rw [HS.out]), rfl⟩

set_option maxHeartbeats 400000 in
theorem fold_any (s : ByteArray) (w : World) (hs : s.size ≤ 140737488351232) :
    Calls Try.prog 59 #[.string s] w fun e w' => e = .returned (.string (Mt.str (s.data.toList.map Mt.sm))) ∧ Below w.heap.size w w' := by
  obtain ⟨i0, hi, hz0, hz1, hz2⟩ := info_parts Try.info5
  go_enter Try.func59, Try.ntmps59
  go_wp2_with (at_make; refine wpList_make_full _ rfl _ _ 77 rfl w.heap.size 5 i0 (.int .u8 0) 1 Try.underlying77 hi hz0 hz1 .i64 .i64 _ _ s.size rfl rfl rfl rfl (by rw [hz2]; omega) (by unfold maxLen; omega) (Nat.le_refl _) ?_; intro w1 hown hgr)
  have hb1 : Hid (Below w.heap.size w w1) := (Below.refl _ _).grown hgr (Nat.le_refl _) (fun k hk => by cases hk)
  have hown1 : w1.ownsRow w.heap.size 5 1 (.slice (some ⟨w.heap.size, 0, none⟩) s.size s.size) s.size (Mt.cs ((s.data.toList.map Mt.sm).take 0 ++ List.replicate (s.size - 0) 0)) := by
    have e : Mt.cs ((s.data.toList.map Mt.sm).take 0 ++ List.replicate (s.size - 0) 0) = List.replicate s.size (Value.int .u8 0) := by simp [Mt.cs]
    rw [e]; simpa [toList_madeCells_one, Value.cells] using hown
  clear hown hgr hi hz0 hz1 hz2
  go_loopw [10] (fun i wr => ∃ k : Nat, k ≤ s.size ∧ i = .int .i64 k ∧ wr.ownsRow w.heap.size 5 1 (.slice (some ⟨w.heap.size, 0, none⟩) s.size s.size) s.size (Mt.cs ((s.data.toList.map Mt.sm).take k ++ List.replicate (s.size - k) 0)) ∧ Hid (Below w.heap.size w wr))
    (fun i _ => s.size - (intOf i).toNat)
  case atStart => exact ⟨0, Nat.zero_le _, rfl, hown1, hb1⟩
  case round =>
    obtain ⟨k, hk, rfl, hown, HB⟩ := hrel
    by_cases hlt : k < s.size
    · obtain ⟨c, hc⟩ : ∃ c, s[k] = c := ⟨_, rfl⟩
      have hcell : wr.cell? ⟨w.heap.size, k, none⟩ = some (.int .u8 0) := by
        rw [hown.cellAt _ (by omega), Mt.fold_cell s k hlt]
      have hfz := hown.frozenAt k
      go_wp2_with (go_at_call 66; refine (small_any _ _).mono ?_; rintro e w' ⟨rfl, rfl⟩)
      go_roundw
      case rel =>
        refine ⟨k + 1, by omega, by go_num, ?_, Below.setCell HB.out (Nat.le_refl _) _⟩
        have := (hown.stored k (.int .u8 (Mt.sm c).toNat)).1
        rw [← hc] at this ⊢
        rwa [Mt.fold_set s k hlt] at this
      case measure => simp [intOf]; omega
    · obtain rfl : k = s.size := by omega
      have e : (s.data.toList.map Mt.sm).take s.size ++ List.replicate (s.size - s.size) 0 = s.data.toList.map Mt.sm := by
        rw [Nat.sub_self, List.replicate_zero, List.append_nil, List.take_of_length_le (by simp)]
      rw [e] at hown
      clear e
      have hcv := conv_row (s.data.toList.map Mt.sm) w.heap.size w.heap.size s.size s.size wr (by simp) hown
      go_wp2
      go_ret
      exact ⟨rfl, HB.out⟩

end Go.Proofs.Ythkhicpkkmhfbaa
