/-
  TlvPuts is proved (the second form): any node's bytes, or what is wrong first; it stays as it is. Where what comes in is of bulk at most 1048576.
-/
import Derived.Test.YtfnggifadhploaaRows
import Derived.Test.YtfnggifadhploaaTvA
import Derived.Test.YtfnggifadhploaaTvT
import Derived.Test.YtfnggifadhploaaTvQ
import Derived.ProofKit
import Derived.OpenShut
import Derived.ShutString
import Derived.SizedLaws
import Derived.Deep.CondSized
namespace Go.Proofs.Ytfnggifadhploaa.tlvPuts
open Go.ChangeShapes Go.WideShapes Go.ChangeAt Go.RowKit
open Go.ChangeMaps (open_string shut_string)
set_option linter.unusedVariables false

set_option maxRecDepth 100000 in
set_option maxHeartbeats 1000000 in
theorem walk (n : Mt.Nd) (v : Value) (h : Nat) (hs : Mt.Small h n) (w : World) (hn : IsNd w (fun _ => True) h v n) :
    Calls Try.prog 4 #[v] w fun e w' => e = .returned (.bool true) ∧ Below w.heap.size w w' := by
  obtain ⟨a, c, rfl⟩ := hn.form
  obtain ⟨O, hO⟩ : ∃ O, Obj.cells #[.int .i64 n.tag, .string (Mt.str n.data), .slice a n.kids.length c] 24 (0, 0) = O := ⟨_, rfl⟩
  have hb0 := (Below.refl w.heap.size w).alloc (Nat.le_refl _) O
  have hr0 := heap_alloc_new w O
  have HB0 := Lib.hid hb0
  have HR0 := Lib.hid hr0
  have HN0 := Lib.hid (hn.below hb0)
  have HT := Lib.hid (twin_any h n _ (w.alloc O) _ (hn.below hb0))
  have HSM := Lib.hid hs
  rw [← hO] at HB0 HR0 HN0 HT
  clear hb0 hr0 hO hn hs
  obtain ⟨P, hP⟩ : ∃ P, Mt.putL 64 n = P := ⟨_, rfl⟩
  have HPP := Lib.hid hP
  clear hP
  go_enter Try.func4, Try.ntmps4
  go_wp2_with fail
  refine (HT.out).mono ?_
  rintro x w1 ⟨a2, c2, rfl, hn1, hb1⟩
  have HB1 := Lib.hid (HB0.out.trans (hb1.mono HB0.out.size))
  have HR1 := Lib.hid ((hb1.block _ (lt_of_block HR0.out)).trans HR0.out)
  have HN1 := Lib.hid (HN0.out.below hb1)
  obtain ⟨O2, hO2⟩ : ∃ O, Obj.cells #[.int .i64 n.tag, .string (Mt.str n.data), .slice a2 n.kids.length c2] 24 (0, 0) = O := ⟨_, rfl⟩
  have hbx := (Below.refl w1.heap.size w1).alloc (Nat.le_refl _) O2
  have hrx := heap_alloc_new w1 O2
  have HB2 := Lib.hid (HB1.out.trans (hbx.mono HB1.out.size))
  have HR2 := Lib.hid ((hbx.block _ (lt_of_block HR1.out)).trans HR1.out)
  have HX2 := Lib.hid hrx
  have HN2 := Lib.hid (HN1.out.below hbx)
  have HM2 := Lib.hid (hn1.below hbx)
  have HP1 := Lib.hid (Put_any n _ (w1.alloc O2) _ _ (HN1.out.below hbx))
  have hlt1 := lt_of_block HR1.out
  obtain ⟨c0, c1, c2', _, _, _⟩ := box_of HR1.out
  rw [← hO2] at HB2 HR2 HX2 HN2 HM2 HP1
  rw [HPP.out] at HP1
  clear hb1 hn1 hbx hrx hO2
  go_wp2_with fail
  refine (HP1.out).mono ?_
  rintro x w2 ⟨rfl, hb2⟩
  have HB3 := Lib.hid (HB2.out.trans (hb2.mono HB2.out.size))
  have HR3 := Lib.hid ((hb2.block _ (lt_of_block HR2.out)).trans HR2.out)
  have HX3 := Lib.hid ((hb2.block _ (lt_of_block HX2.out)).trans HX2.out)
  have HN3 := Lib.hid (HN2.out.below hb2)
  have HM3 := Lib.hid (HM2.out.below hb2)
  have HP2 := Lib.hid (rPut_any n _ w2 _ _ _ HM3.out HSM.out)
  rw [HPP.out] at HP2
  obtain ⟨e0, e1, e2, _, _, _⟩ := box_of HX3.out
  clear hb2 c0 c1 c2'
  cases P with
  | error e =>
    simp only [putV]
    go_wp2_with fail
    refine (HP2.out).mono ?_
    rintro x w3 ⟨rfl, hb3⟩
    have HB4 := Lib.hid (HB3.out.trans (hb3.mono HB3.out.size))
    have HR4 := Lib.hid ((hb3.block _ (lt_of_block HR3.out)).trans HR3.out)
    have HX4 := Lib.hid ((hb3.block _ (lt_of_block HX3.out)).trans HX3.out)
    have HN4 := Lib.hid (HN3.out.below hb3)
    have HM4 := Lib.hid (HM3.out.below hb3)
    clear hb3 e0 e1 e2
    simp only [putV]
    go_wp2_with fail
    refine (awake7_any _).mono ?_
    rintro x w4 ⟨rfl, hb4⟩
    have HB5 := Lib.hid (HB4.out.trans (hb4.mono HB4.out.size))
    obtain ⟨c0, c1, c2', _, _, _⟩ := box_of ((hb4.block _ (lt_of_block HR4.out)).trans HR4.out)
    obtain ⟨e0, e1, e2, _, _, _⟩ := box_of ((hb4.block _ (lt_of_block HX4.out)).trans HX4.out)
    have HSS := Lib.hid (same_any _ _ n _ _ w4 _ _ (HN4.out.below hb4) (HM4.out.below hb4))
    clear hb4
    go_wp2_with fail
    refine (HSS.out).mono ?_
    rintro x w5 ⟨rfl, hb5⟩
    have HB6 := Lib.hid (HB5.out.trans (hb5.mono HB5.out.size))
    clear hb5
    go_wp2_with fail
    go_ret
    exact ⟨rfl, HB6.out⟩
  | ok s =>
    simp only [putV]
    go_wp2_with fail
    refine (HP2.out).mono ?_
    rintro x w3 ⟨rfl, hb3⟩
    have HB4 := Lib.hid (HB3.out.trans (hb3.mono HB3.out.size))
    have HR4 := Lib.hid ((hb3.block _ (lt_of_block HR3.out)).trans HR3.out)
    have HX4 := Lib.hid ((hb3.block _ (lt_of_block HX3.out)).trans HX3.out)
    have HN4 := Lib.hid (HN3.out.below hb3)
    have HM4 := Lib.hid (HM3.out.below hb3)
    clear hb3 e0 e1 e2
    simp only [putV]
    go_wp2_with fail
    refine (awake7_any _).mono ?_
    rintro x w4 ⟨rfl, hb4⟩
    have HB5 := Lib.hid (HB4.out.trans (hb4.mono HB4.out.size))
    obtain ⟨c0, c1, c2', _, _, _⟩ := box_of ((hb4.block _ (lt_of_block HR4.out)).trans HR4.out)
    obtain ⟨e0, e1, e2, _, _, _⟩ := box_of ((hb4.block _ (lt_of_block HX4.out)).trans HX4.out)
    have HSS := Lib.hid (same_any _ _ n _ _ w4 _ _ (HN4.out.below hb4) (HM4.out.below hb4))
    clear hb4
    go_wp2_with fail
    refine (HSS.out).mono ?_
    rintro x w5 ⟨rfl, hb5⟩
    have HB6 := Lib.hid (HB5.out.trans (hb5.mono HB5.out.size))
    clear hb5
    go_wp2_with fail
    go_ret
    exact ⟨rfl, HB6.out⟩

/-! The step from the walk to the row. -/
theorem own : ownKnob Try.prog.godebug = none := by kernel_rfl
theorem laidOut : laidOutB Try.prog = true := by kernel_rfl

set_option maxRecDepth 100000 in
theorem lifted (os : Os) (started : os.Started) (H : Type) (enc : TypeId × Value → H) (F : Stop.Interp) :
    ReturnsInHanded {} Try.checked os 4 .any ((Rows.OpenSpec.upto Rows.tlvPutsSpec).pre6 enc Try.prog Try.f4 Rows.tlvPutsUptoRow.domain false) (((Rows.OpenSpec.upto Rows.tlvPutsSpec).at F).post enc Try.prog Try.f4 false true false false) := by
  refine returnsInHanded_of_cond_sized (C := Try.checked) (s := Rows.OpenSpec.upto Rows.tlvPutsSpec) (k := Rows.uptoSmall) rfl own started (by kernel_rfl) Try.func4
    (OpenSpec.witness (enc := enc) (C := Try.checked) (s := Rows.OpenSpec.upto Rows.tlvPutsSpec) (k := Rows.uptoSmall) rfl false ⟨#[], #[.agg #[.int .i64 0, .string .empty, .slice none 0 0]], []⟩ 8 (by kernel_rfl) (by kernel_rfl) (by kernel_rfl)
      (x := ([.agg [.lit (.int .i64 0), .lit (.string []), .nil]], [], [])) (by kernel_rfl) rfl (by kernel_rfl)) ?_
  intro W base args ds gs before hval0 hW _ hk hsz0 _
  have hsz : (DataW.weightsEach Try.prog (Try.f4.params.toList ++ Rows.tlvPutsSpec.plain.varTypes Try.prog) (ds ++ gs)).all (· ≤ reachBytes) = true := hsz0
  have hval : ∀ (j : Nat) t v, Try.f4.params[j]? = some t → args[j]? = some v → Value.okWide Try.prog W .any base t v := hval0
  have hW' := hW
  obtain ⟨p, q, hA0, hV, rfl, _, _⟩ := hW
  have hA : DataW.TrodAll enc Try.prog W 0 (fun _ => true) true Try.f4.params.toList args.toList ds p := hA0
  rw [Try.params4] at hA hval hsz
  obtain ⟨v0, vs0, d0, ds0, p0, q0, hargs, rfl, rfl, h0, r0⟩ := trodAll_cons hA
  obtain ⟨rfl, rfl, rfl⟩ := trodAll_nil r0
  obtain rfl : args = #[v0] := by cases args; simp_all
  obtain ⟨rfl, rfl⟩ := trodVars_none hV
  have k0 := h0
  have lt0 : ∀ x ∈ p0, x.block < W.heap.size := by obtain ⟨m, hm⟩ := k0; exact DataW.trod_lt m _ _ _ hm
  obtain ⟨n0, m0, w0, z0⟩ := open_nodeS (j := 0) (hval 0 24 v0 rfl rfl) h0 rfl rfl hsz hk
  clear hA0 hval0
  simp only [List.append_nil] at hW'
  refine (walk n0 v0 m0 z0 W w0).mono fun e W' ⟨he, bel⟩ => ?_
  subst he
  exact ⟨_, rfl, _, _, _, [], _, [], hW', trodAll_mk1 (shut_bool Try.underlying4 _), (trodAll_cons_mk (Below.trod laidOut (by kernel_rfl) (of_decide_eq_true (by kernel_rfl)) k0 bel lt0) trodAll_mk0), rfl, bel.frame _, fun h => by cases h⟩

theorem proved : Rows.TlvPutsUptoSaid :=
  OpenClaim.holds_of_cond 4 Try.f4 rfl rfl rfl rfl rfl rfl rfl ⟨rfl, rfl, rfl, rfl, rfl⟩ rfl rfl rfl rfl rfl (by kernel_rfl) Try.func4 (by kernel_rfl)
    (of_decide_eq_true (by kernel_rfl)) (by unfold Func.isWrapper; first | (rw [if_pos (by decide +kernel)]; kernel_rfl) | (rw [if_neg (by decide +kernel)]; exact ⟨rfl, rfl⟩))
    (fun os started H enc _ F => lifted os started H enc F)

#print axioms proved
end Go.Proofs.Ytfnggifadhploaa.tlvPuts
