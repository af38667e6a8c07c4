/-
  What the document's digit comes to; string(b) of a slice of the call's own.
-/
import Derived.Test.YthpedokhalndjabHex
namespace Go.Proofs.Ythpedokhalndjab
open Go.RowKit

/-- string(b) of whatever slice of the call's own. -/
theorem conv_own (l : List Int) (B n : Nat) (v : Value) (w : World) (hown : w.ownsRow B 5 1 v n (l.map (Value.int .u8))) :
    (convert 63 9 v).run Try.prog w = .ok (.string (strOfNums l)) w := by
  have hl : l.length = n := by have := hown.1; simpa using this
  rcases hown.2 with ⟨rfl, rfl⟩ | ⟨g, cap, cur, rfl, _⟩
  · have : l = [] := List.eq_nil_of_length_eq_zero hl
    subst this
    exact run_convert_bytes_nil (P := Try.prog) w 63 5 Try.underlying63 Try.underlying5 0 0 9 Try.underlying9
  · exact run_convert_bytes_arg (P := Try.prog) w 63 5 Try.underlying63 Try.underlying5 g 0 n cap l hl (fun i hi => by
      rw [Nat.zero_add, hown.cellAt _ (by omega)]
      simp [List.getD, List.getElem?_eq_getElem (show i < l.length by omega)]) 9 Try.underlying9

theorem rdigit_any (n : Int) (w : World) (h0 : 0 ≤ n) (h : n < 16) : Calls Try.prog 115 #[.int .u8 n] w fun e w' => e = .returned (.int .u8 (Mt.dg n.toNat)) ∧ w = w' := by
  by_cases h10 : n < 10
  · have HD := Lib.hid (show Mt.dg n.toNat = 48 + n by unfold Mt.dg; rw [if_pos (by omega)]; omega)
    go_enter Try.func115, Try.ntmps115
    go_wp2
    go_ret
    exact ⟨Mt.ret_int (by rw [HD.out]), rfl⟩
  · have HD := Lib.hid (show Mt.dg n.toNat = 97 + n - 10 by unfold Mt.dg; rw [if_neg (by omega)]; omega)
    go_enter Try.func115, Try.ntmps115
    go_wp2
    go_ret
    exact ⟨Mt.ret_int (by rw [HD.out]), rfl⟩

end Go.Proofs.Ythpedokhalndjab
