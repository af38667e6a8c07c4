/-
  TlvNumbers is proved: any number's bytes, and what number, or truth, any bytes are. No condition.
-/
import Derived.Test.YtfnggifadhploaaRows
import Derived.Test.YtfnggifadhploaaTvA
import Derived.ProofKit
import Derived.OpenShut
import Derived.ShutString
import Derived.SizedLaws
namespace Go.Proofs.Ytfnggifadhploaa.tlvNumbers
open Go.ChangeShapes Go.WideShapes Go.ChangeAt Go.RowKit
open Go.ChangeMaps (open_string shut_string)
set_option linter.unusedVariables false

set_option maxRecDepth 100000 in
theorem walk (n : Int) (s : ByteArray) (w0 : (Lit.int .i64 n).wf = true) (w1 : s.size ≤ 140737488351232) (w : World) :
    Calls Try.prog 5 #[.int .i64 n, .string s] w fun e w' => e = .returned (.bool true) ∧ Below w.heap.size w w' := by
  have hb := bounds_i64 w0
  obtain ⟨h0, h1⟩ := hb
  have HI := Lib.hid (fun W => int_any n W h0 (by omega))
  have HR := Lib.hid (fun W => rint_any n W h0 (by omega))
  have HN := Lib.hid (fun W => number_any s W w1)
  have HM := Lib.hid (fun W => rnumber_any s W w1)
  have hsz : (Mt.str (Mt.intL n)).size ≤ 140737488351232 := by rw [Mt.str_size, Mt.intL_length]; have := (Mt.isz_le n).2; omega
  have HB : Hid (∀ W : World, Calls Try.prog 21 #[.string (Mt.str (Mt.intL n))] W fun e w' => e = .returned (.tuple #[.int .i64 n, .bool true]) ∧ Below W.heap.size W w') := fun W => by
    have h := number_any (Mt.str (Mt.intL n)) W hsz
    rw [Mt.str_data] at h
    unfold numV at h
    rw [Mt.num_int n h0 (by omega)] at h
    exact h
  generalize hq : Mt.numL s.data.toList = q
  obtain ⟨q1, q2⟩ := q
  have hnv : numV s.data.toList = .tuple #[.int .i64 q1, .bool q2] := by unfold numV; rw [hq]
  rw [hnv] at HN HM
  have e255 : (s.toList == [255]) = decide (s.data.toList = [255]) := by
    rw [ByteArray.toList_eq]
    by_cases h : s.data.toList = [255]
    · simp [h]
    · rw [decide_eq_false h]; simpa using h
  have e0 : (s.toList == [0]) = decide (s.data.toList = [0]) := by
    rw [ByteArray.toList_eq]
    by_cases h : s.data.toList = [0]
    · simp [h]
    · rw [decide_eq_false h]; simpa using h
  have HBO : Hid (∀ W : World, Calls Try.prog 23 #[.string s] W fun e w' => e = .returned (.tuple #[.bool (s.toList == [255]), .bool ((s.toList == [255]) || (s.toList == [0]))]) ∧ W = w') := fun W => by
    have h := bool_any s W
    rw [e255, e0]
    simpa using h
  generalize Mt.str (Mt.intL n) = T at *
  generalize hx : (s.toList == [255]) = b1 at *
  generalize hy : (s.toList == [0]) = b2 at *
  clear hnv hq e255 e0 hsz w1 w0
  go_enter Try.func5, Try.ntmps5
  go_wp2_with fail
  refine (HN.out _).mono ?_
  rintro e w1 ⟨rfl, hb⟩
  have HW1 := Lib.hid hb
  clear hb
  go_wp2_with fail
  refine (HM.out _).mono ?_
  rintro e w2 ⟨rfl, hb⟩
  have HW2 := Lib.hid (HW1.out.trans (hb.mono HW1.out.size))
  clear hb HW1
  go_wp2_with fail
  refine (HBO.out _).mono ?_
  rintro e w3 ⟨rfl, rfl⟩
  go_wp2_with fail
  refine (HI.out _).mono ?_
  rintro e w3 ⟨rfl, hb⟩
  have HW3 := Lib.hid (HW2.out.trans (hb.mono HW2.out.size))
  clear hb HW2
  go_wp2_with fail
  refine (HB.out _).mono ?_
  rintro e w4 ⟨rfl, hb⟩
  have HW4 := Lib.hid (HW3.out.trans (hb.mono HW3.out.size))
  clear hb HW3
  go_wp2_with fail
  refine (awake7_any _).mono ?_
  rintro e w5 ⟨rfl, hb⟩
  have HW5 := Lib.hid (HW4.out.trans (hb.mono HW4.out.size))
  clear hb HW4
  go_wp2_with fail
  refine (HI.out _).mono ?_
  rintro e w6 ⟨rfl, hb⟩
  have HW6 := Lib.hid (HW5.out.trans (hb.mono HW5.out.size))
  clear hb HW5
  go_wp2_with fail
  refine (HR.out _).mono ?_
  rintro e w7 ⟨rfl, hb⟩
  have HW7 := Lib.hid (HW6.out.trans (hb.mono HW6.out.size))
  clear hb HW6
  cases b1 <;> cases b2 <;> cases q2
  all_goals
    go_wp2_with fail
    go_ret
    exact ⟨rfl, HW7.out⟩

/-! The step from the walk to the row. -/
theorem own : ownKnob Try.prog.godebug = none := by kernel_rfl
theorem laidOut : laidOutB Try.prog = true := by kernel_rfl

set_option maxRecDepth 100000 in
theorem lifted (os : Os) (started : os.Started) (H : Type) (enc : TypeId × Value → H) :
    ReturnsInHanded {} Try.checked os 5 .any (Rows.tlvNumbersSpec.pre6 enc Try.prog Try.f5 Rows.tlvNumbersRow.domain false) (Rows.tlvNumbersSpec.post enc Try.prog Try.f5 false true false false) := by
  refine returnsInHanded_of_change_sized (C := Try.checked) own started (by kernel_rfl) Try.func5
    (ChangeSpec.witness6 (enc := enc) (C := Try.checked) false ⟨#[], #[.int .i64 0, .string .empty], []⟩ 8 (by kernel_rfl) (by kernel_rfl) (by kernel_rfl) (by kernel_rfl)) ?_
  intro W base args ds gs before hval0 hW _ hsz0 _
  have hsz : (DataW.weightsEach Try.prog (Try.f5.params.toList ++ Rows.tlvNumbersSpec.plain.varTypes Try.prog) (ds ++ gs)).all (· ≤ reachBytes) = true := hsz0
  have hval : ∀ (j : Nat) t v, Try.f5.params[j]? = some t → args[j]? = some v → Value.okWide Try.prog W .any base t v := hval0
  have hW' := hW
  obtain ⟨p, q, hA0, hV, rfl, _, _⟩ := hW
  have hA : DataW.TrodAll enc Try.prog W 0 (fun _ => true) true Try.f5.params.toList args.toList ds p := hA0
  rw [Try.params5] at hA hval hsz
  obtain ⟨v0, vs0, d0, ds0, p0, q0, hargs, rfl, rfl, h0, r0⟩ := trodAll_cons hA
  obtain ⟨v1, vs1, d1, ds1, p1, q1, rfl, rfl, rfl, h1, r1⟩ := trodAll_cons r0
  obtain ⟨rfl, rfl, rfl⟩ := trodAll_nil r1
  obtain rfl : args = #[v0, v1] := by cases args; simp_all
  obtain ⟨rfl, rfl⟩ := trodVars_none hV
  obtain ⟨a0, rfl, rfl, rfl, w0⟩ := open_int Try.underlying2 (hval 0 2 v0 rfl rfl) h0
  obtain ⟨a1, rfl, rfl, rfl, m1⟩ := open_string Try.underlying9 (hval 1 9 v1 rfl rfl) h1
  have w1 : a1.size ≤ 140737488351232 := by
    have h : a1.data.toList.length ≤ reachBytes := sized_string hsz (j := 1) (t := 9) rfl rfl
    simpa [reachBytes] using h
  clear hA0 hval0
  simp only [List.append_nil] at hW'
  refine (walk a0 a1 w0 w1 W ).mono fun e W' ⟨he, bel⟩ => ?_
  subst he
  exact ⟨_, rfl, _, _, _, [], _, [], hW', trodAll_mk1 (shut_bool Try.underlying4 _), (trodAll_cons_mk (shut_int Try.underlying2 w0) (trodAll_cons_mk (shut_string Try.underlying9 m1) trodAll_mk0)), rfl, bel.frame _, fun h => by cases h⟩

theorem proved : Rows.TlvNumbersSaid :=
  OpenClaim.holds_of_wide 5 Try.f5 rfl rfl rfl rfl rfl rfl rfl ⟨rfl, rfl, rfl, rfl, rfl⟩ rfl rfl rfl rfl rfl (by kernel_rfl) Try.func5 (by kernel_rfl)
    (of_decide_eq_true (by kernel_rfl)) (by unfold Func.isWrapper; first | (rw [if_pos (by decide +kernel)]; kernel_rfl) | (rw [if_neg (by decide +kernel)]; exact ⟨rfl, rfl⟩))
    (fun os started H enc _ => lifted os started H enc)

#print axioms proved
end Go.Proofs.Ytfnggifadhploaa.tlvNumbers
