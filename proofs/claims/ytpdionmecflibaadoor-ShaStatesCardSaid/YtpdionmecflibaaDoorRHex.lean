/-
  What the document's digit and Hex come to.
-/
import Derived.Test.YtpdionmecflibaaDoorHex
namespace Go.Proofs.YtpdionmecflibaaDoor
open Go.RowKit

/-- string(b) of whatever slice of the call's own. -/
theorem conv_own (l : List Int) (B n : Nat) (v : Value) (w : World) (hown : w.ownsRow B 5 1 v n (l.map (Value.int .u8))) :
    (convert 46 9 v).run Tryd.prog w = .ok (.string (strOfNums l)) w := by
  have hl : l.length = n := by have := hown.1; simpa using this
  rcases hown.2 with ⟨rfl, rfl⟩ | ⟨g, cap, cur, rfl, _⟩
  · have : l = [] := List.eq_nil_of_length_eq_zero hl
    subst this
    exact run_convert_bytes_nil (P := Tryd.prog) w 46 5 Tryd.underlying46 Tryd.underlying5 0 0 9 Tryd.underlying9
  · exact run_convert_bytes_arg (P := Tryd.prog) w 46 5 Tryd.underlying46 Tryd.underlying5 g 0 n cap l hl (fun i hi => by
      rw [Nat.zero_add, hown.cellAt _ (by omega)]
      simp [List.getD, List.getElem?_eq_getElem (show i < l.length by omega)]) 9 Tryd.underlying9

theorem rdigit_any (n : Int) (w : World) (h0 : 0 ≤ n) (h : n < 16) : Calls Tryd.prog 40 #[.int .u8 n] w fun e w' => e = .returned (.int .u8 (Mt.dg n.toNat)) ∧ w = w' := by
  by_cases h10 : n < 10
  · have HD := Lib.hid (show Mt.dg n.toNat = 48 + n by unfold Mt.dg; rw [if_pos (by omega)]; omega)
    go_enter Tryd.func40, Tryd.ntmps40
    go_wp2
    go_ret
    exact ⟨Mt.ret_int (by rw [HD.out]), rfl⟩
  · have HD := Lib.hid (show Mt.dg n.toNat = 97 + n - 10 by unfold Mt.dg; rw [if_neg (by omega)]; omega)
    go_enter Tryd.func40, Tryd.ntmps40
    go_wp2
    go_ret
    exact ⟨Mt.ret_int (by rw [HD.out]), rfl⟩

set_option maxHeartbeats 800000 in
set_option maxRecDepth 100000 in
theorem rhex_any (s : ByteArray) (w : World) (hs : s.size ≤ 70368744177664) :
    Calls Tryd.prog 32 #[.string s] w fun e w' => e = .returned (.string (strOfNums (Mt.hex s.data.toList))) ∧ Below w.heap.size w w' := by
  obtain ⟨i0, hi, hz0, hz1, hz2⟩ := info_parts Tryd.info5
  go_enter Tryd.func32, Tryd.ntmps32
  go_wp2
  go_loopw [3, 4] (fun v i wr => ∃ k : Nat, k ≤ s.size ∧ i = .int .i64 k ∧ wr.ownsRow w.heap.size 5 1 v (2 * k) ((Mt.hex (s.data.toList.take k)).map (Value.int .u8)) ∧ Hid (Below w.heap.size w wr))
    (fun _ i _ => s.size - (intOf i).toNat)
  case atStart => exact ⟨0, Nat.zero_le _, rfl, World.ownsRow_nil _ _ _ _, Below.refl _ _⟩
  case round =>
    obtain ⟨k, hk, rfl, hown, HB⟩ := hrel
    by_cases hlt : k < s.size
    · have HS := Lib.hid (Mt.take_snoc s k hlt)
      obtain ⟨c, hc⟩ : ∃ c, s[k] = c := ⟨_, rfl⟩
      have HC := Lib.hid hc
      have hc256 : (c.toNat : Int) < 256 := by have := c.toNat_lt; omega
      have hsz := HB.out.size
      obtain ⟨x1, hx1⟩ : ∃ x, Mt.dg ((c.toNat : Int) / 16).toNat = x := ⟨_, rfl⟩
      obtain ⟨x2, hx2⟩ : ∃ x, Mt.dg ((c.toNat : Int) % 16).toNat = x := ⟨_, rfl⟩
      have d1 := fun wx => rdigit_any ((c.toNat : Int) / 16) wx (by omega) (by omega)
      have d2 := fun wx => rdigit_any ((c.toNat : Int) % 16) wx (by omega) (by omega)
      rw [hx1] at d1
      rw [hx2] at d2
      have HX1 := Lib.hid hx1
      have HX2 := Lib.hid hx2
      have D1 := Lib.hid d1
      have D2 := Lib.hid d2
      clear hx1 hx2 d1 d2
      go_wp2_with fail
      refine (D1.out _).mono ?_
      rintro e w' ⟨rfl, rfl⟩
      go_wp2_with (at_builtin; refine wpList_append_own _ rfl _ _ 46 rfl w.heap.size 5 i0 (.int .u8 0) 1 1 Tryd.underlying46 hi hz0 hz1 hz2 rfl (by decide) _ _ _ rfl (hown.alloc _) ⟨wr.heap.size, 0, none⟩ 1 1 [.int .u8 x1] rfl rfl (cell_one_new _ _ _) (by simp [Value.oneCell']) (by unfold maxLen; omega) (by omega) (by simp; omega) ?_; intro v1 w1 hown1 hgr1 _)
      have HB1 : Hid (Below w.heap.size w w1) := (HB.out.alloc hsz _).grown hgr1 (by simp; omega) (fun j hj => (hown.lt j hj).1)
      clear hgr1
      have hsz1 := HB1.out.size
      refine (D2.out _).mono ?_
      rintro e w' ⟨rfl, rfl⟩
      clear hown
      go_wp2_with (at_builtin; refine wpList_append_own _ rfl _ _ 46 rfl w.heap.size 5 i0 (.int .u8 0) 1 1 Tryd.underlying46 hi hz0 hz1 hz2 rfl (by decide) _ _ _ rfl (hown1.alloc _) ⟨w1.heap.size, 0, none⟩ 1 1 [.int .u8 x2] rfl rfl (cell_one_new _ _ _) (by simp [Value.oneCell']) (by unfold maxLen; omega) (by omega) (by simp; omega) ?_; intro v2 w2 hown2 hgr2 _)
      have HB2 : Hid (Below w.heap.size w w2) := (HB1.out.alloc hsz1 _).grown hgr2 (by simp; omega) (fun j hj => (hown1.lt j hj).1)
      clear hgr2 hown1
      go_roundw
      case rel =>
        refine ⟨k + 1, by omega, by go_num, ?_, HB2⟩
        have e : (Mt.hex (s.data.toList.take (k + 1))).map (Value.int .u8) = (Mt.hex (s.data.toList.take k)).map (Value.int .u8) ++ [.int .u8 x1] ++ [.int .u8 x2] := by
          rw [HS.out, Mt.hex_append, HC.out, ← HX1.out, ← HX2.out]
          have e1 : ((c.toNat : Int) / 16).toNat = c.toNat / 16 := by omega
          have e2 : ((c.toNat : Int) % 16).toNat = c.toNat % 16 := by omega
          rw [e1, e2]
          simp [Mt.hex]
        rw [e]
        exact hown2
      case measure => simp [intOf]; omega
    · obtain rfl : k = s.size := by omega
      have ht : s.data.toList.take s.size = s.data.toList := List.take_of_length_le (Nat.le_refl _)
      rw [ht] at hown
      clear ht
      have hcv := conv_own (Mt.hex s.data.toList) w.heap.size _ _ wr hown
      go_wp2
      go_ret
      exact ⟨rfl, HB.out⟩

end Go.Proofs.YtpdionmecflibaaDoor
