/-
  What the calls dn.letter, digit, Type, guarded and ends come to.
-/
import Derived.Test.YtnlbhmjgeedgpaaDoorDnMath
import Derived.Test.YtnlbhmjgeedgpaaDoorTx
import Derived.Laws.RangeAny
import Derived.Laws.RangeString
set_option linter.unusedVariables false
set_option linter.unusedSimpArgs false
namespace Go.Proofs.YtnlbhmjgeedgpaaDoor
open Go.RowKit

theorem letter_int (x : Int) (h0 : 0 ≤ x) (w : World) : Calls Tryd.prog 67 #[.int .i32 x] w fun e w' => e = .returned (.bool (Mt.letN x.toNat)) ∧ w = w' := by
  have hx : Mt.letN x.toNat = ((decide (65 ≤ x) && decide (x ≤ 90)) || (decide (97 ≤ x) && decide (x ≤ 122))) := by
    unfold Mt.letN
    rw [Bool.eq_iff_iff]; simp; omega
  rw [hx]; clear hx h0
  obtain ⟨b1, h1⟩ : ∃ b, decide ((65 : Int) ≤ x) = b := ⟨_, rfl⟩
  obtain ⟨b2, h2⟩ : ∃ b, decide (x ≤ (90 : Int)) = b := ⟨_, rfl⟩
  obtain ⟨b3, h3⟩ : ∃ b, decide ((97 : Int) ≤ x) = b := ⟨_, rfl⟩
  obtain ⟨b4, h4⟩ : ∃ b, decide (x ≤ (122 : Int)) = b := ⟨_, rfl⟩
  rw [h1, h2, h3, h4]
  cases b1 <;> cases b2 <;> cases b3 <;> cases b4 <;> (go_enter Tryd.func67, Tryd.ntmps67; go_wp2; go_ret; exact ⟨rfl, rfl⟩)

theorem digit_int (x : Int) (h0 : 0 ≤ x) (w : World) : Calls Tryd.prog 68 #[.int .i32 x] w fun e w' => e = .returned (.bool (Mt.digN x.toNat)) ∧ w = w' := by
  have hx : Mt.digN x.toNat = (decide (48 ≤ x) && decide (x ≤ 57)) := by
    unfold Mt.digN
    rw [Bool.eq_iff_iff]; simp; omega
  rw [hx]; clear hx h0
  obtain ⟨b1, h1⟩ : ∃ b, decide ((48 : Int) ≤ x) = b := ⟨_, rfl⟩
  obtain ⟨b2, h2⟩ : ∃ b, decide (x ≤ (57 : Int)) = b := ⟨_, rfl⟩
  rw [h1, h2]
  cases b1 <;> cases b2 <;> (go_enter Tryd.func68, Tryd.ntmps68; go_wp2; go_ret; exact ⟨rfl, rfl⟩)

theorem Mt.ends_str (s : ByteArray) (h : 0 < s.size) : Mt.endsL s.data.toList = (decide ((s[0].toNat : Int) = 44) || decide ((s[0].toNat : Int) = 43)) := by
  obtain ⟨r, hr, _, _⟩ := Mt.cons_of h
  rw [hr]
  simp only [Mt.endsL]
  have e1 : s[0] = 44 ↔ (s[0].toNat : Int) = 44 := ⟨fun e => by rw [e]; rfl, fun e => Mt.u8_ext (by show s[0].toNat = 44; omega)⟩
  have e2 : s[0] = 43 ↔ (s[0].toNat : Int) = 43 := ⟨fun e => by rw [e]; rfl, fun e => Mt.u8_ext (by show s[0].toNat = 43; omega)⟩
  rw [Bool.eq_iff_iff]; simp only [decide_eq_true_eq, Bool.or_eq_true, e1, e2]
end Go.Proofs.YtnlbhmjgeedgpaaDoor
