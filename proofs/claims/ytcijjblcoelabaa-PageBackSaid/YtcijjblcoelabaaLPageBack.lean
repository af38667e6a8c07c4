/-
  PageBack is proved: what is said is read. No condition.
-/
import Derived.Test.YtcijjblcoelabaaRows
import Derived.Test.YtcijjblcoelabaaPgM
import Derived.Test.YtcijjblcoelabaaPgL
import Derived.ProofKit
import Derived.OpenShut
import Derived.ShutString
import Derived.SizedLaws
set_option linter.unusedVariables false
set_option linter.unusedSimpArgs false
namespace Go.Proofs.Ytcijjblcoelabaa.pageBack
open Go.ChangeShapes Go.WideShapes Go.ChangeAt Go.RowKit Go.Shelf
open Go.ChangeMaps (open_string shut_string)
set_option linter.unusedVariables false

theorem ask_back {size : Int} {c : List UInt8} (hs : 0 ≤ size ∧ size ≤ 2147483647) (hc : c.length ≤ 1000000) : Mt.askS (Mt.ansL size c) = some (size, c) ∧ (Mt.ansL size c).length ≤ 140737488351232 := by
  obtain ⟨s, h1, h2, h3⟩ := Mt.ans_put hs hc
  have hp := Mt.parse_put 64 _ _ [] h1
  rw [List.append_nil] at hp
  refine ⟨?_, by rw [h2]; omega⟩
  unfold Mt.askS Mt.wholeL
  rw [h2, hp]
  exact Mt.ask_ans hs
set_option maxRecDepth 100000 in
theorem walk (n : Int) (ck : ByteArray) (_ : (Lit.int .i64 n).wf = true) (hz : ck.size ≤ 140737488351232) (w : World) : Calls Try.prog 6 #[.int .i64 n, .string ck] w fun e w' => e = .returned (.bool true) ∧ Below w.heap.size w w' := by
  obtain ⟨C, hC⟩ : ∃ C, Mt.str C = ck := ⟨ck.data.toList, Mt.str_of ck⟩
  subst hC
  have HAW := Lib.hid (fun u => awake26_any u)
  by_cases h0 : n < 0
  · go_enter Try.func6, Try.ntmps6
    go_wp2_with fail
    refine (HAW.out _).mono ?_
    rintro e w1 ⟨rfl, hb⟩
    go_wp2_with fail
    all_goals (go_ret; exact ⟨rfl, hb⟩)
  · by_cases h1 : n > 2147483647
    · go_enter Try.func6, Try.ntmps6
      go_wp2_with fail
      refine (HAW.out _).mono ?_
      rintro e w1 ⟨rfl, hb⟩
      go_wp2_with fail
      all_goals (go_ret; exact ⟨rfl, hb⟩)
    · by_cases h2 : (100000 : Int) < ((Mt.str C).size : Int)
      · go_enter Try.func6, Try.ntmps6
        go_wp2_with fail
        refine (HAW.out _).mono ?_
        rintro e w1 ⟨rfl, hb⟩
        go_wp2_with fail
        all_goals (go_ret; exact ⟨rfl, hb⟩)
      · have hlen : C.length ≤ 1000000 := by rw [Mt.str_size] at h2; omega
        obtain ⟨hb1, hb2⟩ := ask_back (size := n) (by omega) hlen
        have HAN := Lib.hid (fun u => answer26_any n C (by omega) (by omega) (by omega) u)
        have HAK : Hid (∀ u, Calls Try.prog 21 #[.string (Mt.str (Mt.ansL n C))] u fun e w' => e = .returned (.tuple #[.int .i64 n, .string (Mt.str C), .bool true]) ∧ Below u.heap.size u w') := Lib.hid (fun u => by
          have h := ask26_any (Mt.str (Mt.ansL n C)) u (by rw [Mt.str_size]; exact hb2)
          have e1 : (Mt.str (Mt.ansL n C)).data.toList = Mt.ansL n C := by first | rfl | simp [Mt.str]
          rw [e1, hb1] at h
          exact h)
        generalize Mt.str (Mt.ansL n C) = A at *
        clear hb1 hb2 hlen
        generalize Mt.str C = ck at *
        go_enter Try.func6, Try.ntmps6
        go_wp2_with fail
        refine (HAN.out _).mono ?_
        rintro e w1 ⟨rfl, hb⟩
        have H1 := Lib.hid hb
        clear hb
        go_wp2_with fail
        refine (HAK.out _).mono ?_
        rintro e w2 ⟨rfl, hb⟩
        have H2 := Lib.hid (H1.out.trans (hb.mono H1.out.size))
        clear hb
        go_wp2_with fail
        refine (HAW.out _).mono ?_
        rintro e w3 ⟨rfl, hb⟩
        have H3 := Lib.hid (H2.out.trans (hb.mono H2.out.size))
        clear hb
        go_wp2_with fail
        all_goals (go_ret; exact ⟨rfl, H3.out⟩)

/-! The step from the walk to the row. -/
theorem own : ownKnob Try.prog.godebug = none := by kernel_rfl
theorem laidOut : laidOutB Try.prog = true := by kernel_rfl

set_option maxRecDepth 100000 in
theorem lifted (os : Os) (started : os.Started) (H : Type) (enc : TypeId × Value → H) :
    ReturnsInHanded {} Try.checked os 6 .any (Rows.pageBackSpec.pre6 enc Try.prog Try.f6 Rows.pageBackRow.domain false) (Rows.pageBackSpec.post enc Try.prog Try.f6 false true false false) := by
  refine returnsInHanded_of_change_sized (C := Try.checked) own started (by kernel_rfl) Try.func6
    (ChangeSpec.witness6 (enc := enc) (C := Try.checked) false ⟨#[], #[.int .i64 0, .string .empty], []⟩ 8 (by kernel_rfl) (by kernel_rfl) (by kernel_rfl) (by kernel_rfl)) ?_
  intro W base args ds gs before hval0 hW _ hsz0 _
  have hsz : (DataW.weightsEach Try.prog (Try.f6.params.toList ++ Rows.pageBackSpec.plain.varTypes Try.prog) (ds ++ gs)).all (· ≤ reachBytes) = true := hsz0
  have hval : ∀ (j : Nat) t v, Try.f6.params[j]? = some t → args[j]? = some v → Value.okWide Try.prog W .any base t v := hval0
  have hW' := hW
  obtain ⟨p, q, hA0, hV, rfl, _, _⟩ := hW
  have hA : DataW.TrodAll enc Try.prog W 0 (fun _ => true) true Try.f6.params.toList args.toList ds p := hA0
  rw [Try.params6] at hA hval hsz
  obtain ⟨v0, vs0, d0, ds0, p0, q0, hargs, rfl, rfl, h0, r0⟩ := trodAll_cons hA
  obtain ⟨v1, vs1, d1, ds1, p1, q1, rfl, rfl, rfl, h1, r1⟩ := trodAll_cons r0
  obtain ⟨rfl, rfl, rfl⟩ := trodAll_nil r1
  obtain rfl : args = #[v0, v1] := by cases args; simp_all
  obtain ⟨rfl, rfl⟩ := trodVars_none hV
  obtain ⟨a0, rfl, rfl, rfl, w0⟩ := open_int Try.underlying3 (hval 0 3 v0 rfl rfl) h0
  obtain ⟨a1, rfl, rfl, rfl, m1⟩ := open_string Try.underlying9 (hval 1 9 v1 rfl rfl) h1
  have w1 : a1.size ≤ 140737488351232 := by
    have h : a1.data.toList.length ≤ reachBytes := sized_string hsz (j := 1) (t := 9) rfl rfl
    simpa [reachBytes] using h
  clear hA0 hval0
  simp only [List.append_nil] at hW'
  refine (walk a0 a1 w0 w1 W ).mono fun e W' ⟨he, bel⟩ => ?_
  subst he
  exact ⟨_, rfl, _, _, _, [], _, [], hW', trodAll_mk1 (shut_bool Try.underlying4 _), (trodAll_cons_mk (shut_int Try.underlying3 w0) (trodAll_cons_mk (shut_string Try.underlying9 m1) trodAll_mk0)), rfl, bel.frame _, fun h => by cases h⟩

theorem proved : Rows.PageBackSaid :=
  OpenClaim.holds_of_wide 6 Try.f6 rfl rfl rfl rfl rfl rfl rfl ⟨rfl, rfl, rfl, rfl, rfl⟩ rfl rfl rfl rfl rfl (by kernel_rfl) Try.func6 (by kernel_rfl)
    (of_decide_eq_true (by kernel_rfl)) (by unfold Func.isWrapper; first | (rw [if_pos (by decide +kernel)]; kernel_rfl) | (rw [if_neg (by decide +kernel)]; exact ⟨rfl, rfl⟩))
    (fun os started H enc _ => lifted os started H enc)

#print axioms proved
end Go.Proofs.Ytcijjblcoelabaa.pageBack
