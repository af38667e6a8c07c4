/-
  What the document's Fold comes to.
-/
import Derived.Test.YthkhicpkkmhfbaaRHex
import Derived.Deep.LoopGhost
namespace Go.Proofs.Ythkhicpkkmhfbaa
open Go.RowKit

/-- string(b) of whatever slice of the call's own, bytes. -/
theorem conv_ownb (l : List UInt8) (B n : Nat) (v : Value) (w : World) (hown : w.ownsRow B 5 1 v n (Mt.cs l)) :
    (convert 77 9 v).run Try.prog w = .ok (.string (Mt.str l)) w := by
  have h := conv_own (l.map fun c => (c.toNat : Int)) B n v w (by simpa [Mt.cs, Function.comp_def] using hown)
  rwa [Mt.str_nums] at h

set_option maxHeartbeats 800000 in
set_option maxRecDepth 100000 in
theorem rfold_any (s : ByteArray) (w : World) (hs : s.size ≤ 140737488351232) :
    Calls Try.prog 29 #[.string s] w fun e w' => e = .returned (.string (Mt.str (s.data.toList.map Mt.sm))) ∧ Below w.heap.size w w' := by
  obtain ⟨i0, hi, hz0, hz1, hz2⟩ := info_parts Try.info5
  go_enter Try.func29, Try.ntmps29
  go_wp2
  go_loopw [3, 4] (fun v i wr => ∃ k : Nat, k ≤ s.size ∧ i = .int .i64 k ∧ wr.ownsRow w.heap.size 5 1 v k (Mt.cs ((s.data.toList.take k).map Mt.sm)) ∧ Hid (Below w.heap.size w wr))
    (fun _ i _ => s.size - (intOf i).toNat)
  case atStart => exact ⟨0, Nat.zero_le _, rfl, World.ownsRow_nil _ _ _ _, Below.refl _ _⟩
  case round =>
    obtain ⟨k, hk, rfl, hown, HB⟩ := hrel
    by_cases hlt : k < s.size
    · obtain ⟨c, hc⟩ : ∃ c, s[k] = c := ⟨_, rfl⟩
      have HE := Lib.hid (show Mt.cs ((s.data.toList.take (k + 1)).map Mt.sm) = Mt.cs ((s.data.toList.take k).map Mt.sm) ++ [.int .u8 (Mt.sm c).toNat] by
        rw [Mt.take_snoc s k hlt, hc, List.map_append, Mt.cs_append]; rfl)
      have hsm := Mt.sm_toNat c
      unfold Mt.smN at hsm
      have hsz := HB.out.size
      have hc256 : (c.toNat : Int) < 256 := by have := c.toNat_lt; omega
      have hle : ∀ (x : Int), Hid (x = ((Mt.sm c).toNat : Int)) → Hid (Mt.cs ((s.data.toList.take (k + 1)).map Mt.sm) = Mt.cs ((s.data.toList.take k).map Mt.sm) ++ [.int .u8 x]) := fun x hx => by
        have e : x = ((Mt.sm c).toNat : Int) := hx.out
        subst e; exact HE.out
      by_cases h : 65 ≤ c.toNat ∧ c.toNat ≤ 90
      · rw [if_pos h] at hsm
        have HX := hle ((c.toNat : Int) - 65 + 97) (Lib.hid (by omega))
        have h1 : (65 : Int) ≤ (c.toNat : Int) := by omega
        have h2 : (c.toNat : Int) ≤ 90 := by omega
        clear hsm hle h
        go_wp2_with (at_builtin; refine wpList_append_own _ rfl _ _ 77 rfl w.heap.size 5 i0 (.int .u8 0) 1 1 Try.underlying77 hi hz0 hz1 hz2 rfl (by decide) _ _ _ rfl (hown.alloc _) ⟨wr.heap.size, 0, none⟩ 1 1 [.int .u8 ((c.toNat : Int) - 65 + 97)] rfl rfl (cell_one_new _ _ _) (by simp [Value.oneCell']) (by unfold maxLen; omega) (by omega) (by simp; omega) ?_; intro v1 w1 hown1 hgr1 _)
        have HB1 : Hid (Below w.heap.size w w1) := (HB.out.alloc hsz _).grown hgr1 (by simp; omega) (fun j hj => (hown.lt j hj).1)
        go_roundw
        case rel => exact ⟨k + 1, by omega, by go_num, by rw [HX.out]; exact hown1, HB1⟩
        case measure => simp [intOf]; omega
      · rw [if_neg h] at hsm
        have HX := hle (c.toNat : Int) (Lib.hid (by omega))
        by_cases h1 : 65 ≤ c.toNat
        · have h2 : decide ((c.toNat : Int) ≤ 90) = false := by simp; omega
          have h1 : (65 : Int) ≤ (c.toNat : Int) := by omega
          clear hsm hle h
          go_wp2_with (at_builtin; refine wpList_append_own _ rfl _ _ 77 rfl w.heap.size 5 i0 (.int .u8 0) 1 1 Try.underlying77 hi hz0 hz1 hz2 rfl (by decide) _ _ _ rfl (hown.alloc _) ⟨wr.heap.size, 0, none⟩ 1 1 [.int .u8 (c.toNat : Int)] rfl rfl (cell_one_new _ _ _) (by simp [Value.oneCell']) (by unfold maxLen; omega) (by omega) (by simp; omega) ?_; intro v1 w1 hown1 hgr1 _)
          have HB1 : Hid (Below w.heap.size w w1) := (HB.out.alloc hsz _).grown hgr1 (by simp; omega) (fun j hj => (hown.lt j hj).1)
          go_roundw
          case rel => exact ⟨k + 1, by omega, by go_num, by rw [HX.out]; exact hown1, HB1⟩
          case measure => simp [intOf]; omega
        · have h2 : decide ((65 : Int) ≤ (c.toNat : Int)) = false := by simp; omega
          clear hsm hle h
          go_wp2_with (at_builtin; refine wpList_append_own _ rfl _ _ 77 rfl w.heap.size 5 i0 (.int .u8 0) 1 1 Try.underlying77 hi hz0 hz1 hz2 rfl (by decide) _ _ _ rfl (hown.alloc _) ⟨wr.heap.size, 0, none⟩ 1 1 [.int .u8 (c.toNat : Int)] rfl rfl (cell_one_new _ _ _) (by simp [Value.oneCell']) (by unfold maxLen; omega) (by omega) (by simp; omega) ?_; intro v1 w1 hown1 hgr1 _)
          have HB1 : Hid (Below w.heap.size w w1) := (HB.out.alloc hsz _).grown hgr1 (by simp; omega) (fun j hj => (hown.lt j hj).1)
          go_roundw
          case rel => exact ⟨k + 1, by omega, by go_num, by rw [HX.out]; exact hown1, HB1⟩
          case measure => simp [intOf]; omega
    · obtain rfl : k = s.size := by omega
      have ht : s.data.toList.take s.size = s.data.toList := List.take_of_length_le (Nat.le_refl _)
      rw [ht] at hown
      clear ht
      have hcv := conv_ownb (s.data.toList.map Mt.sm) w.heap.size _ _ wr hown
      go_wp2
      go_ret
      exact ⟨rfl, HB.out⟩

end Go.Proofs.Ythkhicpkkmhfbaa
