/-
  DnParses is proved: any text's name, or what is wrong first; and which texts are types. No condition.
-/
import Derived.Test.YtcngfnmpghgocaaRows
import Derived.Test.YtcngfnmpghgocaaDnO
import Derived.Test.YtcngfnmpghgocaaDnP
import Derived.Test.YtcngfnmpghgocaaDnRd
import Derived.ProofKit
import Derived.OpenShut
import Derived.ShutString
import Derived.SizedLaws
namespace Go.Proofs.Ytcngfnmpghgocaa.dnParses
open Go.ChangeShapes Go.WideShapes Go.ChangeAt Go.RowKit
open Go.ChangeMaps (open_string shut_string)
set_option linter.unusedVariables false

theorem dn_nil (w : World) : IsDn w (.slice none 0 0) [] := ⟨none, 0, rfl, by simp, by simp, .inl rfl⟩

set_option maxRecDepth 100000 in
set_option maxHeartbeats 1000000 in
theorem walk (s : ByteArray) (hs : s.size ≤ 140737488351232) (w : World) :
    Calls Try.prog 5 #[.string s] w fun e w' => e = .returned (.bool true) ∧ Below w.heap.size w w' := by
  have HP := Lib.hid (dparse_any s w (by omega))
  have HR := Lib.hid (fun u => rparse9_any s u)
  have HA := Lib.hid (fun u => awake9_any u)
  have HT := Lib.hid (fun u => type_any s u)
  have HU := Lib.hid (fun u => rtype_any s u hs)
  obtain ⟨z, hz⟩ : ∃ z, Mt.typL s.data.toList = z := ⟨_, rfl⟩
  rw [hz] at HT HU
  unfold ParsP at HP
  unfold RParsP at HR
  have hzz : (z == z) = true := by cases z <;> rfl
  clear hs hz
  cases hd : Mt.dnL s.data.toList with
  | error e =>
    rw [hd] at HP HR
    clear hd
    have hee : ((e : Int) == (e : Int)) = true := by simp
    go_enter Try.func5, Try.ntmps5
    go_wp2_with fail
    refine (HP.out).mono ?_
    rintro x w2 ⟨hb, rfl⟩
    have HB := Lib.hid hb
    clear hb
    go_wp2_with fail
    refine (HR.out _).mono ?_
    rintro x w3 ⟨hb, rfl⟩
    have HB3 := Lib.hid (HB.out.trans (hb.mono HB.out.size))
    clear hb
    go_wp2_with fail
    refine (HA.out _).mono ?_
    rintro x w4 ⟨rfl, hb⟩
    have HB4 := Lib.hid (HB3.out.trans (hb.mono HB3.out.size))
    clear hb
    have HS := Lib.hid (same9_any (dn_nil w4) (dn_nil w4))
    rw [decide_eq_true rfl] at HS
    go_wp2_with fail
    refine (HS.out).mono ?_
    rintro x w5 ⟨rfl, hb⟩
    have HB5 := Lib.hid (HB4.out.trans (hb.mono HB4.out.size))
    clear hb
    go_wp2_with fail
    refine (HT.out _).mono ?_
    rintro x w6 ⟨rfl, hb⟩
    have HB6 := Lib.hid (HB5.out.trans (hb.mono HB5.out.size))
    clear hb
    go_wp2_with fail
    refine (HU.out _).mono ?_
    rintro x w7 ⟨rfl, hb⟩
    have HB7 := Lib.hid (HB6.out.trans (hb.mono HB6.out.size))
    clear hb
    go_wp2_with fail
    go_ret
    exact ⟨by simp, HB7.out⟩
  | ok d =>
    rw [hd] at HP HR
    clear hd
    go_enter Try.func5, Try.ntmps5
    go_wp2_with fail
    refine (HP.out).mono ?_
    rintro x w2 ⟨hb, v1, rfl, hx⟩
    have HB := Lib.hid hb
    have HX := Lib.hid hx
    obtain ⟨a1, c1, rfl, _⟩ := hx
    clear hb
    go_wp2_with fail
    refine (HR.out _).mono ?_
    rintro x w3 ⟨hb, v2, rfl, hy⟩
    have HX3 := Lib.hid (HX.out.below hb)
    have HY3 := Lib.hid hy
    obtain ⟨a2, c2, rfl, _⟩ := hy
    have HB3 := Lib.hid (HB.out.trans (hb.mono HB.out.size))
    clear hb
    go_wp2_with fail
    refine (HA.out _).mono ?_
    rintro x w4 ⟨rfl, hb⟩
    have HB4 := Lib.hid (HB3.out.trans (hb.mono HB3.out.size))
    have HS := Lib.hid (same9_any (HX3.out.below hb) (HY3.out.below hb))
    rw [decide_eq_true rfl] at HS
    clear hb
    go_wp2_with fail
    refine (HS.out).mono ?_
    rintro x w5 ⟨rfl, hb⟩
    have HB5 := Lib.hid (HB4.out.trans (hb.mono HB4.out.size))
    clear hb
    go_wp2_with fail
    refine (HT.out _).mono ?_
    rintro x w6 ⟨rfl, hb⟩
    have HB6 := Lib.hid (HB5.out.trans (hb.mono HB5.out.size))
    clear hb
    go_wp2_with fail
    refine (HU.out _).mono ?_
    rintro x w7 ⟨rfl, hb⟩
    have HB7 := Lib.hid (HB6.out.trans (hb.mono HB6.out.size))
    clear hb
    go_wp2_with fail
    go_ret
    exact ⟨by simp, HB7.out⟩

/-! The step from the walk to the row. -/
theorem own : ownKnob Try.prog.godebug = none := by kernel_rfl
theorem laidOut : laidOutB Try.prog = true := by kernel_rfl

set_option maxRecDepth 100000 in
theorem lifted (os : Os) (started : os.Started) (H : Type) (enc : TypeId × Value → H) :
    ReturnsInHanded {} Try.checked os 5 .any (Rows.dnParsesSpec.pre6 enc Try.prog Try.f5 Rows.dnParsesRow.domain false) (Rows.dnParsesSpec.post enc Try.prog Try.f5 false true false false) := by
  refine returnsInHanded_of_change_sized (C := Try.checked) own started (by kernel_rfl) Try.func5
    (ChangeSpec.witness6 (enc := enc) (C := Try.checked) false ⟨#[], #[.string .empty], []⟩ 8 (by kernel_rfl) (by kernel_rfl) (by kernel_rfl) (by kernel_rfl)) ?_
  intro W base args ds gs before hval0 hW _ hsz0 _
  have hsz : (DataW.weightsEach Try.prog (Try.f5.params.toList ++ Rows.dnParsesSpec.plain.varTypes Try.prog) (ds ++ gs)).all (· ≤ reachBytes) = true := hsz0
  have hval : ∀ (j : Nat) t v, Try.f5.params[j]? = some t → args[j]? = some v → Value.okWide Try.prog W .any base t v := hval0
  have hW' := hW
  obtain ⟨p, q, hA0, hV, rfl, _, _⟩ := hW
  have hA : DataW.TrodAll enc Try.prog W 0 (fun _ => true) true Try.f5.params.toList args.toList ds p := hA0
  rw [Try.params5] at hA hval hsz
  obtain ⟨v0, vs0, d0, ds0, p0, q0, hargs, rfl, rfl, h0, r0⟩ := trodAll_cons hA
  obtain ⟨rfl, rfl, rfl⟩ := trodAll_nil r0
  obtain rfl : args = #[v0] := by cases args; simp_all
  obtain ⟨rfl, rfl⟩ := trodVars_none hV
  obtain ⟨a0, rfl, rfl, rfl, m0⟩ := open_string Try.underlying9 (hval 0 9 v0 rfl rfl) h0
  have w0 : a0.size ≤ 140737488351232 := by
    have h : a0.data.toList.length ≤ reachBytes := sized_string hsz (j := 0) (t := 9) rfl rfl
    simpa [reachBytes] using h
  clear hA0 hval0
  simp only [List.append_nil] at hW'
  refine (walk a0 w0 W ).mono fun e W' ⟨he, bel⟩ => ?_
  subst he
  exact ⟨_, rfl, _, _, _, [], _, [], hW', trodAll_mk1 (shut_bool Try.underlying4 _), (trodAll_cons_mk (shut_string Try.underlying9 m0) trodAll_mk0), rfl, bel.frame _, fun h => by cases h⟩

theorem proved : Rows.DnParsesSaid :=
  OpenClaim.holds_of_wide 5 Try.f5 rfl rfl rfl rfl rfl rfl rfl ⟨rfl, rfl, rfl, rfl, rfl⟩ rfl rfl rfl rfl rfl (by kernel_rfl) Try.func5 (by kernel_rfl)
    (of_decide_eq_true (by kernel_rfl)) (by unfold Func.isWrapper; first | (rw [if_pos (by decide +kernel)]; kernel_rfl) | (rw [if_neg (by decide +kernel)]; exact ⟨rfl, rfl⟩))
    (fun os started H enc _ => lifted os started H enc)

#print axioms proved
end Go.Proofs.Ytcngfnmpghgocaa.dnParses
