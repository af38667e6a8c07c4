/-
  DnPrints is proved: any name's text, and its key, or what is wrong first; it stays as it is. No condition.
-/
import Derived.Test.YthpedokhalndjabRows
import Derived.Test.YthpedokhalndjabDnO
import Derived.Test.YthpedokhalndjabDnW
import Derived.ProofKit
import Derived.OpenShut
import Derived.ShutString
import Derived.SizedLaws
namespace Go.Proofs.Ythpedokhalndjab.dnPrints
open Go.ChangeShapes Go.WideShapes Go.ChangeAt Go.RowKit
open Go.ChangeMaps (open_string shut_string)
set_option linter.unusedVariables false

set_option maxRecDepth 100000 in
set_option maxHeartbeats 1000000 in
theorem walk (d : List (List Mt.Av)) (a : Option Addr) (n c : Nat) (hf : Mt.FitD d) (w : World) (hv : IsDn w (.slice a n c) d) :
    Calls Try.prog 5 #[.slice a n c] w fun e w' => e = .returned (.bool true) ∧ Below w.heap.size w w' := by
  have HV := Lib.hid hv
  have HT := Lib.hid (rtwin9_any hv hf)
  have HS : Hid (∀ r ∈ d, ∀ a ∈ r, a.1.length ≤ 140737488351232) := Lib.hid (fun r hr a ha => ((hf.2 r hr).2 a ha).1)
  obtain ⟨r, t, hrt⟩ : ∃ r t, textV (Mt.printD d) = .tuple #[.string r, .int .i64 t] := by
    cases Mt.printD d <;> exact ⟨_, _, rfl⟩
  obtain ⟨r2, t2, hrt2⟩ : ∃ r t, textV (Mt.keyD d) = .tuple #[.string r, .int .i64 t] := by
    cases Mt.keyD d <;> exact ⟨_, _, rfl⟩
  have HA := Lib.hid (fun u => awake9_any u)
  have HRT := Lib.hid hrt
  have HRT2 := Lib.hid hrt2
  have hee : ((t : Int) == (t : Int)) = true := by simp
  have hrr : (r.toList == r.toList) = true := by simp
  have hee2 : ((t2 : Int) == (t2 : Int)) = true := by simp
  have hrr2 : (r2.toList == r2.toList) = true := by simp
  clear hf hrt hrt2 hv
  go_enter Try.func5, Try.ntmps5
  go_wp2_with fail
  refine (HT.out).mono ?_
  rintro e w2 ⟨x, rfl, hx, hb⟩
  have HB := Lib.hid hb
  have HX2 := Lib.hid hx
  have HV2 := Lib.hid (HV.out.below hb)
  have HP := Lib.hid (print_any HV2.out)
  rw [HRT.out] at HP
  obtain ⟨xa, xc, rfl, _⟩ := hx
  clear hb
  go_wp2_with fail
  refine (HP.out).mono ?_
  rintro e w3 ⟨rfl, hb⟩
  have HB3 := Lib.hid (HB.out.trans (hb.mono HB.out.size))
  have HV3 := Lib.hid (HV2.out.below hb)
  have HX3 := Lib.hid (HX2.out.below hb)
  have HRP := Lib.hid (rprint_any HX3.out HS.out)
  rw [HRT.out] at HRP
  clear hb
  go_wp2_with fail
  refine (HRP.out).mono ?_
  rintro e w4 ⟨rfl, hb⟩
  have HB4 := Lib.hid (HB3.out.trans (hb.mono HB3.out.size))
  have HV4 := Lib.hid (HV3.out.below hb)
  have HX4 := Lib.hid (HX3.out.below hb)
  have HN := Lib.hid (norm_any HV4.out)
  rw [HRT2.out] at HN
  clear hb
  go_wp2_with fail
  refine (HN.out).mono ?_
  rintro e w5 ⟨rfl, hb⟩
  have HB5 := Lib.hid (HB4.out.trans (hb.mono HB4.out.size))
  have HV5 := Lib.hid (HV4.out.below hb)
  have HX5 := Lib.hid (HX4.out.below hb)
  have HRN := Lib.hid (rnorm_of rplain_any HX5.out HS.out)
  rw [HRT2.out] at HRN
  clear hb
  go_wp2_with fail
  refine (HRN.out).mono ?_
  rintro e w6 ⟨rfl, hb⟩
  have HB6 := Lib.hid (HB5.out.trans (hb.mono HB5.out.size))
  have HV6 := Lib.hid (HV5.out.below hb)
  have HX6 := Lib.hid (HX5.out.below hb)
  clear hb
  go_wp2_with fail
  refine (HA.out _).mono ?_
  rintro e w7 ⟨rfl, hb⟩
  have HB7 := Lib.hid (HB6.out.trans (hb.mono HB6.out.size))
  have HSM := Lib.hid (same9_any (HV6.out.below hb) (HX6.out.below hb))
  rw [decide_eq_true rfl] at HSM
  clear hb
  go_wp2_with fail
  refine (HSM.out).mono ?_
  rintro e w8 ⟨rfl, hb⟩
  have HB8 := Lib.hid (HB7.out.trans (hb.mono HB7.out.size))
  clear hb
  go_wp2_with fail
  go_ret
  exact ⟨rfl, HB8.out⟩

/-! The step from the walk to the row. -/
theorem own : ownKnob Try.prog.godebug = none := by kernel_rfl
theorem laidOut : laidOutB Try.prog = true := by kernel_rfl

set_option maxRecDepth 100000 in
theorem lifted (os : Os) (started : os.Started) (H : Type) (enc : TypeId × Value → H) :
    ReturnsInHanded {} Try.checked os 5 .any (Rows.dnPrintsSpec.pre6 enc Try.prog Try.f5 Rows.dnPrintsRow.domain false) (Rows.dnPrintsSpec.post enc Try.prog Try.f5 false true false false) := by
  refine returnsInHanded_of_change_sized (C := Try.checked) own started (by kernel_rfl) Try.func5
    (ChangeSpec.witness6 (enc := enc) (C := Try.checked) false ⟨#[], #[.slice none 0 0], []⟩ 8 (by kernel_rfl) (by kernel_rfl) (by kernel_rfl) (by kernel_rfl)) ?_
  intro W base args ds gs before hval0 hW _ hsz0 _
  have hsz : (DataW.weightsEach Try.prog (Try.f5.params.toList ++ Rows.dnPrintsSpec.plain.varTypes Try.prog) (ds ++ gs)).all (· ≤ reachBytes) = true := hsz0
  have hval : ∀ (j : Nat) t v, Try.f5.params[j]? = some t → args[j]? = some v → Value.okWide Try.prog W .any base t v := hval0
  have hW' := hW
  obtain ⟨p, q, hA0, hV, rfl, _, _⟩ := hW
  have hA : DataW.TrodAll enc Try.prog W 0 (fun _ => true) true Try.f5.params.toList args.toList ds p := hA0
  rw [Try.params5] at hA hval hsz
  obtain ⟨v0, vs0, d0, ds0, p0, q0, hargs, rfl, rfl, h0, r0⟩ := trodAll_cons hA
  obtain ⟨rfl, rfl, rfl⟩ := trodAll_nil r0
  obtain rfl : args = #[v0] := by cases args; simp_all
  obtain ⟨rfl, rfl⟩ := trodVars_none hV
  obtain ⟨a0, n0, c0, rfl⟩ := okWide_slice Try.underlying43 (hval 0 43 v0 rfl rfl)
  have k0 := h0
  have lt0 : ∀ x ∈ p0, x.block < W.heap.size := by obtain ⟨m, hm⟩ := k0; exact DataW.trod_lt m _ _ _ hm
  obtain ⟨D0, w0, z0⟩ := open_dnW (j := 0) h0 rfl rfl hsz
  clear hA0 hval0
  simp only [List.append_nil] at hW'
  refine (walk D0 a0 n0 c0 z0 W w0).mono fun e W' ⟨he, bel⟩ => ?_
  subst he
  exact ⟨_, rfl, _, _, _, [], _, [], hW', trodAll_mk1 (shut_bool Try.underlying4 _), (trodAll_cons_mk (Below.trod laidOut (by kernel_rfl) (of_decide_eq_true (by kernel_rfl)) k0 bel lt0) trodAll_mk0), rfl, bel.frame _, fun h => by cases h⟩

theorem proved : Rows.DnPrintsSaid :=
  OpenClaim.holds_of_wide 5 Try.f5 rfl rfl rfl rfl rfl rfl rfl ⟨rfl, rfl, rfl, rfl, rfl⟩ rfl rfl rfl rfl rfl (by kernel_rfl) Try.func5 (by kernel_rfl)
    (of_decide_eq_true (by kernel_rfl)) (by unfold Func.isWrapper; first | (rw [if_pos (by decide +kernel)]; kernel_rfl) | (rw [if_neg (by decide +kernel)]; exact ⟨rfl, rfl⟩))
    (fun os started H enc _ => lifted os started H enc)

#print axioms proved
end Go.Proofs.Ythpedokhalndjab.dnPrints
