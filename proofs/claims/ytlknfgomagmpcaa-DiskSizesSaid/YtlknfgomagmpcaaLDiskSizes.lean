/-
  DiskSizes is proved: how many sectors there are, whatever is asked for, and how many may be written, whatever the limit. No condition.
-/
import Derived.Test.YtlknfgomagmpcaaRows
import Derived.Test.YtlknfgomagmpcaaDkH
import Derived.ProofKit
import Derived.OpenShut
import Derived.ShutString
import Derived.SizedLaws
namespace Go.Proofs.Ytlknfgomagmpcaa.diskSizes
open Go.ChangeShapes Go.WideShapes Go.ChangeAt Go.RowKit
open Go.ChangeMaps (open_string shut_string)
set_option linter.unusedVariables false

set_option maxRecDepth 100000 in
theorem walk (a0 a1 : Int) (w0 : (Lit.int .i64 a0).wf = true) (w1 : (Lit.int .i64 a1).wf = true) (w : World) : Calls Try.prog 4 #[.int .i64 a0, .int .i64 a1] w fun e w' => e = .returned (.bool true) ∧ Below w.heap.size w w' := by
  obtain ⟨n, hn⟩ : ∃ n, min a0.toNat 8192 = n := ⟨_, rfl⟩
  have HN := Lib.hid (new_any a0 w)
  rw [hn] at HN
  have hl0 : (Mt.Dk.new n).lasts.length = n := by simp [Mt.Dk.new]
  have hr0 : (Mt.Dk.new n).room = n := rfl
  have hl1 : ((Mt.Dk.new n).limit a1).lasts.length = n := hl0
  have hr1 : ((Mt.Dk.new n).limit a1).room = min a1.toNat n := by show min a1.toNat (Mt.Dk.new n).lasts.length = _; rw [hl0]
  have HI := Lib.hid (fun (u : World) p q r (h : IsDisk u p q r ((Mt.Dk.new n).limit a1)) => (image_any h).mono (R' := fun e w' => e = Ending.returned (.string (Mt.str ((Mt.Dk.new n).limit a1).image)) ∧ Below u.heap.size u w') fun _ _ h => h)
  have HIL : Hid (∀ (u : World) p q r, IsDisk u p q r ((Mt.Dk.new n).limit a1) → (Mt.str ((Mt.Dk.new n).limit a1).image).size = n * 128) := Lib.hid (fun u p q r h => by rw [Mt.str_size, Mt.Dk.image_length h.ok, hl1]; omega)
  have HR0 := Lib.hid (fun (u : World) p q r (h : IsDisk u p q r (Mt.Dk.new n)) => room_any h)
  have HLM := Lib.hid (fun (u : World) p q r (h : IsDisk u p q r (Mt.Dk.new n)) => limit_any h a1)
  have HS1 := Lib.hid (fun (u : World) p q r (h : IsDisk u p q r ((Mt.Dk.new n).limit a1)) => sectors_any h)
  have HR1 := Lib.hid (fun (u : World) p q r (h : IsDisk u p q r ((Mt.Dk.new n).limit a1)) => room_any h)
  rw [hr0] at HR0
  rw [hl1] at HS1
  rw [hr1] at HR1
  generalize (Mt.Dk.new n).limit a1 = d1 at *
  generalize Mt.Dk.new n = d0 at *
  have hn2 : n ≤ 8192 := by omega
  obtain ⟨m, hm⟩ : ∃ m, min a1.toNat n = m := ⟨_, rfl⟩
  rw [hm] at HR1
  clear hl0 hr0 hl1 hr1
  have h5 : (max 0 (min a0 8192)) = (n : Int) := by omega
  have h6 : (max 0 (min (n : Int) a1)) = (m : Int) := by omega
  have h7 : (n = 0 ∧ a0 ≤ 0) ∨ ((n : Int) = a0 ∧ 0 < a0 ∧ a0 ≤ 8192) ∨ (n = 8192 ∧ 8192 < a0) := by omega
  have h8 : (m = 0 ∧ (n = 0 ∨ a1 ≤ 0)) ∨ ((m : Int) = a1 ∧ 0 < a1 ∧ a1 ≤ n) ∨ (m = n ∧ n < a1) := by omega
  go_enter Try.func4, Try.ntmps4
  go_wp2_with fail
  refine (HN.out).mono ?_
  rintro e w2 ⟨rfl, hd, hb⟩
  have HD := Lib.hid hd
  have HB := Lib.hid hb
  clear hd hb HN
  clear h7 h8
  go_wp2_with fail
  refine (HR0.out _ _ _ _ HD.out).mono ?_
  rintro e w3 ⟨rfl, rfl⟩
  go_wp2_with fail
  refine (HLM.out _ _ _ _ HD.out).mono ?_
  rintro e w3 ⟨rfl, hd, ho⟩
  have HD2 := Lib.hid hd
  have HB2 := Lib.hid (OnlyS.up HB.out ho (Nat.le_refl _) (fun k hk => by simp at hk; omega))
  clear hd ho HD HB
  go_wp2_with fail
  refine (awake5_any _).mono ?_
  rintro e w4 ⟨rfl, hb⟩
  have HD3 := Lib.hid (HD2.out.below hb)
  have HB3 := Lib.hid (HB2.out.trans (hb.mono HB2.out.size))
  clear hb HD2 HB2
  go_wp2_with fail
  refine (HS1.out _ _ _ _ HD3.out).mono ?_
  rintro e w5 ⟨rfl, rfl⟩
  go_wp2_with fail
  refine (HR1.out _ _ _ _ HD3.out).mono ?_
  rintro e w5 ⟨rfl, rfl⟩
  go_wp2_with fail
  refine (HI.out _ _ _ _ HD3.out).mono ?_
  rintro e w5 ⟨rfl, hb⟩
  have HB4 := Lib.hid (HB3.out.trans (hb.mono HB3.out.size))
  have hil := HIL.out _ _ _ _ HD3.out
  clear hb HB3 HI HIL
  have hii : ((Mt.str d1.image).size : Int) = (n : Int) * 128 := by omega
  go_wp2_with fail
  go_ret
  exact ⟨rfl, HB4.out⟩

/-! The step from the walk to the row. -/
theorem own : ownKnob Try.prog.godebug = none := by kernel_rfl
theorem laidOut : laidOutB Try.prog = true := by kernel_rfl

set_option maxRecDepth 100000 in
theorem lifted (os : Os) (started : os.Started) (H : Type) (enc : TypeId × Value → H) :
    ReturnsInHanded {} Try.checked os 4 .any (Rows.diskSizesSpec.pre6 enc Try.prog Try.f4 Rows.diskSizesRow.domain false) (Rows.diskSizesSpec.post enc Try.prog Try.f4 false true false false) := by
  refine returnsInHanded_of_change_sized (C := Try.checked) own started (by kernel_rfl) Try.func4
    (ChangeSpec.witness6 (enc := enc) (C := Try.checked) false ⟨#[], #[.int .i64 0, .int .i64 0], []⟩ 8 (by kernel_rfl) (by kernel_rfl) (by kernel_rfl) (by kernel_rfl)) ?_
  intro W base args ds gs before hval0 hW _ hsz0 _
  have hsz : (DataW.weightsEach Try.prog (Try.f4.params.toList ++ Rows.diskSizesSpec.plain.varTypes Try.prog) (ds ++ gs)).all (· ≤ reachBytes) = true := hsz0
  have hval : ∀ (j : Nat) t v, Try.f4.params[j]? = some t → args[j]? = some v → Value.okWide Try.prog W .any base t v := hval0
  have hW' := hW
  obtain ⟨p, q, hA0, hV, rfl, _, _⟩ := hW
  have hA : DataW.TrodAll enc Try.prog W 0 (fun _ => true) true Try.f4.params.toList args.toList ds p := hA0
  rw [Try.params4] at hA hval hsz
  obtain ⟨v0, vs0, d0, ds0, p0, q0, hargs, rfl, rfl, h0, r0⟩ := trodAll_cons hA
  obtain ⟨v1, vs1, d1, ds1, p1, q1, rfl, rfl, rfl, h1, r1⟩ := trodAll_cons r0
  obtain ⟨rfl, rfl, rfl⟩ := trodAll_nil r1
  obtain rfl : args = #[v0, v1] := by cases args; simp_all
  obtain ⟨rfl, rfl⟩ := trodVars_none hV
  obtain ⟨a0, rfl, rfl, rfl, w0⟩ := open_int Try.underlying3 (hval 0 3 v0 rfl rfl) h0
  obtain ⟨a1, rfl, rfl, rfl, w1⟩ := open_int Try.underlying3 (hval 1 3 v1 rfl rfl) h1
  clear hA0 hval0
  simp only [List.append_nil] at hW'
  refine (walk a0 a1 w0 w1 W ).mono fun e W' ⟨he, bel⟩ => ?_
  subst he
  exact ⟨_, rfl, _, _, _, [], _, [], hW', trodAll_mk1 (shut_bool Try.underlying4 _), (trodAll_cons_mk (shut_int Try.underlying3 w0) (trodAll_cons_mk (shut_int Try.underlying3 w1) trodAll_mk0)), rfl, bel.frame _, fun h => by cases h⟩

theorem proved : Rows.DiskSizesSaid :=
  OpenClaim.holds_of_wide 4 Try.f4 rfl rfl rfl rfl rfl rfl rfl ⟨rfl, rfl, rfl, rfl, rfl⟩ rfl rfl rfl rfl rfl (by kernel_rfl) Try.func4 (by kernel_rfl)
    (of_decide_eq_true (by kernel_rfl)) (by unfold Func.isWrapper; first | (rw [if_pos (by decide +kernel)]; kernel_rfl) | (rw [if_neg (by decide +kernel)]; exact ⟨rfl, rfl⟩))
    (fun os started H enc _ => lifted os started H enc)

#print axioms proved
end Go.Proofs.Ytlknfgomagmpcaa.diskSizes
