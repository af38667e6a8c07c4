/-
  The chapter's examples, as the statements of octet ask for them first: all three are met.
-/
import Derived.Test.YtfcfhfaccpiffaaPrep
namespace Go.Proofs.Ytfcfhfaccpiffaa
open Go.RowKit

theorem put_258 (w : World) : Calls Try.prog 15 #[.int .u64 258, .int .i64 3] w fun e w' => e = .returned (.string ⟨#[0, 1, 2]⟩) ∧ Below w.heap.size w w' :=
  (put_yes 258 3 w (by omega) (by omega)).mono fun e w' h => ⟨h.1.trans (Mt.ret_str (by decide)), h.2⟩
theorem hex_00ff (w : World) : Calls Try.prog 19 #[.string ⟨#[0, 255]⟩] w fun e w' => e = .returned (.string ⟨#[48, 48, 102, 102]⟩) ∧ Below w.heap.size w w' :=
  (hex_any ⟨#[0, 255]⟩ w (by decide)).mono fun e w' h => ⟨h.1.trans (Mt.ret_str (by decide)), h.2⟩
theorem prep_ab (w : World) : Calls Try.prog 25 #[.string ⟨#[32, 32, 65, 32, 32, 98, 32]⟩] w fun e w' => e = .returned (.string ⟨#[97, 32, 98]⟩) ∧ Below w.heap.size w w' :=
  (prep_any ⟨#[32, 32, 65, 32, 32, 98, 32]⟩ w (by decide)).mono fun e w' h => ⟨h.1.trans (Mt.ret_str (by decide)), h.2⟩

theorem awake1_any (w : World) : Calls Try.prog 14 #[] w fun e w' => e = .returned (.bool true) ∧ Below w.heap.size w w' := by
  go_enter Try.func14, Try.ntmps14
  go_wp2_with fail
  refine (put_258 _).mono ?_
  rintro e w1 ⟨rfl, hb1⟩
  have H1 := Lib.hid hb1
  clear hb1
  go_wp2_with fail
  refine (hex_00ff _).mono ?_
  rintro e w2 ⟨rfl, hb2⟩
  have H2 := Lib.hid hb2
  clear hb2
  go_wp2_with fail
  refine (prep_ab _).mono ?_
  rintro e w3 ⟨rfl, hb3⟩
  have H3 := Lib.hid hb3
  clear hb3
  go_wp2_with fail
  go_ret
  exact ⟨rfl, (H1.out.trans (H2.out.mono H1.out.size)).trans (H3.out.mono (Nat.le_trans H1.out.size H2.out.size))⟩

end Go.Proofs.Ytfcfhfaccpiffaa
