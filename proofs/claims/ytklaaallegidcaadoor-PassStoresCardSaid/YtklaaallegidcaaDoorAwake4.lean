/-
  What the call castellanlaw04.awake comes to.
-/
import Derived.Test.YtklaaallegidcaaDoorPass
namespace Go.Proofs.YtklaaallegidcaaDoor
open Go.RowKit

theorem Mt.mk_first : (Mt.mk 1 ⟨#[97]⟩).extract 0 24 = ⟨#[123, 83, 65, 76, 84, 69, 68, 125, 48, 48, 48, 48, 48, 48, 48, 48, 48, 48, 48, 48, 48, 48, 48, 49]⟩ := by
  apply Mt.bytes_ext
  rw [Mt.mk_eq, Mt.ext_list, Mt.app_list, Mt.str_data, Mt.hx_append, ← List.append_assoc, List.drop_zero]
  rw [List.take_left' (by rw [List.length_append, Mt.hx_length, Mt.key_length, Mt.front_list])]
  decide
theorem Mt.mk_check (n : Nat) (p : ByteArray) (hn : n < 18446744073709551616) (h0 : 0 < p.size) (h1 : p.size ≤ 256) : Mt.check (Mt.mk n p) p = true := by
  unfold Mt.check
  rw [Mt.mk_stored, Mt.mk_salt n p hn]
  simp [h0, h1]

theorem awake4_any (w : World) (hg : Laid w) : Calls Tryd.prog 19 #[] w fun e w' => e = .returned (.bool true) ∧ Below w.heap.size w w' := by
  have HF := Lib.hid Mt.mk_first
  have HC := Lib.hid (fun u hgu => check_any (Mt.mk 1 ⟨#[97]⟩) ⟨#[97]⟩ u hgu)
  have HM := Lib.hid (fun u hgu => make_yes ⟨#[97]⟩ 1 u hgu (by decide) (by decide))
  rw [Mt.mk_check 1 ⟨#[97]⟩ (by decide) (by decide) (by decide)] at HC
  have hz := Mt.mk_size 1 ⟨#[97]⟩
  obtain ⟨m, hm⟩ : ∃ m, Mt.mk 1 ⟨#[97]⟩ = m := ⟨_, rfl⟩
  rw [hm] at HC HM HF hz
  have hz1 : (m.size : Int) = 88 := by omega
  have hz2 : (24 : Int) ≤ (m.size : Int) := by omega
  have hx := HF.out
  have HG := Lib.hid hg
  clear hg hm
  go_enter Tryd.func19, Tryd.ntmps19
  go_wp2_with fail
  refine (HM.out _ HG.out).mono ?_
  rintro e w2 ⟨rfl, hb⟩
  have HB := Lib.hid hb
  clear hb
  go_wp2_with fail
  refine (HC.out _ (HG.out.below HB.out (Nat.le_refl _))).mono ?_
  rintro e w3 ⟨rfl, hb⟩
  have HB2 := Lib.hid (HB.out.trans (hb.mono HB.out.size))
  clear hb HB
  go_wp2_with fail
  go_ret
  exact ⟨rfl, HB2.out⟩

end Go.Proofs.YtklaaallegidcaaDoor
