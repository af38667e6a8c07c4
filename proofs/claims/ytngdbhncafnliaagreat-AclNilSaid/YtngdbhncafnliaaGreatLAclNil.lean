/-
  AclNil is proved: of a book that is none nobody may do anything, nor sees anything. No condition.
-/
import Derived.Test.YtngdbhncafnliaaGreatRows
import Derived.ProofKit
import Derived.OpenShut
import Derived.ShutString
import Derived.SizedLaws
import Derived.Test.YtngdbhncafnliaaGreatPk50
namespace Go.Proofs.YtngdbhncafnliaaGreat.aclNil
open Go.ChangeShapes Go.WideShapes Go.ChangeAt Go.RowKit
open Go.ChangeMaps (open_string shut_string)
set_option linter.unusedVariables false

set_option maxRecDepth 100000 in
set_option maxHeartbeats 1000000 in
theorem seen_nil (g : Nat) (v1 v2 : Value) (w : World) (hg : w.heap[g]? = some (.cells #[.string ⟨#[99, 110]⟩, .slice none 0 0] 49)) :
    Calls Tryz.prog 17 #[.pointer none, v1, v2, .slice (some ⟨g, 0, none⟩) 1 1, .int .i64 1] w fun e w' => e = .returned (.slice none 0 0) ∧ Below w.heap.size w w' := by
  have HAB := Lib.hid (about_nil v1 v2 1 w)
  have HAL := Lib.hid (fun (u : World) => allows_any (IsRus.nil u) [99, 110] (by decide) (by decide))
  have h1 : Mt.allowsA [] [99, 110] = false := rfl
  have h2 : Mt.str [99, 110] = ⟨#[99, 110]⟩ := rfl
  have h3 : ([] : List Mt.Ru).length = 0 := rfl
  rw [h1, h2] at HAL
  have HG : Hid (∀ u, Below w.heap.size w u → u.cell? ⟨g, 0, none⟩ = some (.string ⟨#[99, 110]⟩) ∧ u.cell? ⟨g, 1, none⟩ = some (.slice none 0 0)) := Lib.hid (fun u hu => box2_of22 ((hu.block _ (lt_of_block hg)).trans hg))
  clear h1 h2 h3 hg
  go_enter Tryz.func17, Tryz.ntmps17
  go_wp2_with fail
  refine (HAB.out).mono ?_
  rintro e w2 ⟨rfl, hb⟩
  have HB2 := Lib.hid hb
  clear hb
  go_wp2_with fail
  go_loopw [22, 12] (fun iv ov wr => ∃ i : Nat, i ≤ 1 ∧ iv = .int .i64 (i : Int) ∧ ov = .slice none 0 0 ∧ Hid (Below w.heap.size w wr)) (fun iv _ _ => 1 - (intOf iv).toNat)
  case atStart => exact ⟨0, by omega, rfl, rfl, HB2⟩
  case round =>
    obtain ⟨i, hi, rfl, rfl, HB⟩ := hrel
    by_cases hlt : i < 1
    · obtain rfl : i = 0 := by omega
      obtain ⟨x0, x1⟩ := HG.out wr HB.out
      obtain ⟨wa, hwa⟩ : ∃ u, wr.alloc (.cells #[.string ⟨#[99, 110]⟩, .slice none 0 0] 49) = u := ⟨_, rfl⟩
      have hA : Below wr.heap.size wr wa := by rw [← hwa]; exact (Below.refl _ wr).alloc (Nat.le_refl _) _
      have hx : wa.heap[wr.heap.size]? = some (.cells #[.string ⟨#[99, 110]⟩, .slice none 0 0] 49) := by rw [← hwa]; exact heap_alloc_new wr _
      obtain ⟨q0, q1⟩ := box2_of22 hx
      have f0 := frozen_of_row _ _ 0 _ _ hx
      have f1 := frozen_of_row _ _ 1 _ _ hx
      have HBa := Lib.hid (HB.out.trans ((hA.setCell (p := ⟨wr.heap.size, 1, none⟩) (Nat.le_refl _) (.slice none 0 0)).mono HB.out.size))
      have HC := Lib.hid (HAL.out (wa.setCell ⟨wr.heap.size, 1, none⟩ (.slice none 0 0)))
      clear hA hx
      go_wp2_with fail
      refine (HC.out).mono ?_
      rintro e w4 ⟨rfl, hb⟩
      have HB4 := Lib.hid (HBa.out.trans (hb.mono HBa.out.size))
      clear hb x0 x1 q0 q1
      go_wp2_with fail
      go_roundw
      case rel => exact ⟨1, by omega, by first | rfl | go_num, rfl, HB4⟩
      case measure => simp [intOf]
    · obtain rfl : i = 1 := by omega
      go_wp2_with fail
      all_goals (go_ret; exact ⟨rfl, HB.out⟩)
set_option maxRecDepth 100000 in
set_option maxHeartbeats 2000000 in
theorem walk (w : World) : Calls Tryz.prog 7 #[] w fun e w' => e = .returned (.bool true) ∧ Below w.heap.size w w' := by
  have HA := Lib.hid (awake22_any w)
  have HNa := Lib.hid (fun u => name22_any [97] u)
  have hna : Mt.str [97] = ⟨#[97]⟩ := rfl
  rw [hna] at HNa
  have HM := Lib.hid (fun (u : World) (v1 v2 : Value) => may_of (aboutC_nil u v1 v2 1) (by decide) [] (by decide))
  have h0 : Mt.str [] = ⟨#[]⟩ := rfl
  have h1 : Mt.allowsA [] [] = false := rfl
  rw [h0, h1] at HM
  have HL := Lib.hid (fun (u : World) (v1 v2 : Value) => all_of (ns := []) (nv := .slice none 0 0) (aboutC_nil u v1 v2 1) (by decide) ⟨none, 0, rfl, by simp, Lib.hid fun j hj => absurd hj (by simp)⟩ (by decide) (by simp))
  rw [h1] at HL
  have HS := Lib.hid (fun (u : World) (g : Nat) (v1 v2 : Value) (hg : u.heap[g]? = some (.cells #[.string ⟨#[99, 110]⟩, .slice none 0 0] 49)) => seen_nil g v1 v2 u hg)
  clear hna h0 h1
  go_enter Tryz.func7, Tryz.ntmps7
  go_wp2_with fail
  refine (HA.out).mono ?_
  rintro e w1 ⟨rfl, hb⟩
  have HB1 := Lib.hid hb
  clear hb
  go_wp2_with fail
  refine (HNa.out _).mono ?_
  rintro e w2 ⟨a1, n1, c1, rfl, -, hb⟩
  have HB2 := Lib.hid (HB1.out.trans (hb.mono HB1.out.size))
  clear hb
  go_wp2_with fail
  refine (HNa.out _).mono ?_
  rintro e w3 ⟨a2, n2, c2, rfl, -, hb⟩
  have HB3 := Lib.hid (HB2.out.trans (hb.mono HB2.out.size))
  clear hb
  go_wp2_with fail
  refine (HM.out _ _ _).mono ?_
  rintro e w4 ⟨rfl, hb⟩
  have HB4 := Lib.hid (HB3.out.trans (hb.mono HB3.out.size))
  clear hb
  go_wp2_with fail
  refine (HNa.out _).mono ?_
  rintro e w5 ⟨a3, n3, c3, rfl, -, hb⟩
  have HB5 := Lib.hid (HB4.out.trans (hb.mono HB4.out.size))
  clear hb
  go_wp2_with fail
  refine (HNa.out _).mono ?_
  rintro e w6 ⟨a4, n4, c4, rfl, -, hb⟩
  have HB6 := Lib.hid (HB5.out.trans (hb.mono HB5.out.size))
  clear hb
  go_wp2_with fail
  refine (HL.out _ _ _).mono ?_
  rintro e w7 ⟨rfl, hb⟩
  have HB7 := Lib.hid (HB6.out.trans (hb.mono HB6.out.size))
  clear hb
  go_wp2_with fail
  refine (HNa.out _).mono ?_
  rintro e w8 ⟨a5, n5, c5, rfl, -, hb⟩
  have HB8 := Lib.hid (HB7.out.trans (hb.mono HB7.out.size))
  clear hb
  go_wp2_with fail
  refine (HNa.out _).mono ?_
  rintro e w9 ⟨a6, n6, c6, rfl, -, hb⟩
  have HB9 := Lib.hid (HB8.out.trans (hb.mono HB8.out.size))
  clear hb
  obtain ⟨wa, hwa⟩ : ∃ u, w9.alloc (.cells #[.string ⟨#[99, 110]⟩, .slice none 0 0] 49) = u := ⟨_, rfl⟩
  have hA : Below w9.heap.size w9 wa := by rw [← hwa]; exact (Below.refl _ w9).alloc (Nat.le_refl _) _
  have hx : wa.heap[w9.heap.size]? = some (.cells #[.string ⟨#[99, 110]⟩, .slice none 0 0] 49) := by rw [← hwa]; exact heap_alloc_new w9 _
  have HBa := Lib.hid (HB9.out.trans (hA.mono HB9.out.size))
  have HC := Lib.hid (fun v1 v2 => HS.out wa _ v1 v2 hx)
  clear hA hx
  go_wp2_with fail
  refine (HC.out _ _).mono ?_
  rintro e w10 ⟨rfl, hb⟩
  have HB10 := Lib.hid (HBa.out.trans (hb.mono HBa.out.size))
  clear hb
  go_wp2_with fail
  all_goals (go_ret; exact ⟨by first | rfl | simp, HB10.out⟩)

/-! The step from the walk to the row. -/
theorem own : ownKnob Tryz.prog.godebug = none := by kernel_rfl
theorem laidOut : laidOutB Tryz.prog = true := by kernel_rfl

set_option maxRecDepth 100000 in
theorem lifted (os : Os) (started : os.Started) (H : Type) (enc : TypeId × Value → H) :
    ReturnsInHanded {} Tryz.checked os 7 .any (Rows.aclNilSpec.pre6 enc Tryz.prog Tryz.f7 Rows.aclNilRow.domain false) (Rows.aclNilSpec.post enc Tryz.prog Tryz.f7 false true false false) := by
  refine returnsInHanded_of_change_sized (C := Tryz.checked) own started (by kernel_rfl) Tryz.func7
    (ChangeSpec.witness6 (enc := enc) (C := Tryz.checked) false ⟨#[], #[], []⟩ 8 (by kernel_rfl) (by kernel_rfl) (by kernel_rfl) (by kernel_rfl)) ?_
  intro W base args ds gs before hval0 hW _ hsz0 _
  have hsz : (DataW.weightsEach Tryz.prog (Tryz.f7.params.toList ++ Rows.aclNilSpec.plain.varTypes Tryz.prog) (ds ++ gs)).all (· ≤ reachBytes) = true := hsz0
  have hval : ∀ (j : Nat) t v, Tryz.f7.params[j]? = some t → args[j]? = some v → Value.okWide Tryz.prog W .any base t v := hval0
  have hW' := hW
  obtain ⟨p, q, hA0, hV, rfl, _, _⟩ := hW
  have hA : DataW.TrodAll enc Tryz.prog W 0 (fun _ => true) true Tryz.f7.params.toList args.toList ds p := hA0
  rw [Tryz.params7] at hA hval hsz
  obtain ⟨hargs, rfl, rfl⟩ := trodAll_nil hA
  obtain rfl : args = #[] := by cases args; simp_all
  obtain ⟨rfl, rfl⟩ := trodVars_none hV

  clear hA0 hval0
  simp only [List.append_nil] at hW'
  refine (walk   W ).mono fun e W' ⟨he, bel⟩ => ?_
  subst he
  exact ⟨_, rfl, _, _, _, [], _, [], hW', trodAll_mk1 (shut_bool Tryz.underlying4 _), trodAll_mk0, rfl, bel.frame _, fun h => by cases h⟩

theorem proved : Rows.AclNilSaid :=
  OpenClaim.holds_of_wide 7 Tryz.f7 rfl rfl rfl rfl rfl rfl rfl ⟨rfl, rfl, rfl, rfl, rfl⟩ rfl rfl rfl rfl rfl (by kernel_rfl) Tryz.func7 (by kernel_rfl)
    (of_decide_eq_true (by kernel_rfl)) (by unfold Func.isWrapper; first | (rw [if_pos (by decide +kernel)]; kernel_rfl) | (rw [if_neg (by decide +kernel)]; exact ⟨rfl, rfl⟩))
    (fun os started H enc _ => lifted os started H enc)

#print axioms proved
end Go.Proofs.YtngdbhncafnliaaGreat.aclNil
