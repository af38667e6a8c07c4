/-
  SyntaxTwice is proved: a normal form is its own normal form (of Text, unless it is empty). No condition beyond the statement's own; the seven listed package variables start as the program's text lays them.
-/
import Derived.Test.YtfogcgegllhmmaaGreatDoorCards
import Derived.Test.YtfogcgegllhmmaaGreatDoorTie
import Derived.Test.YtfogcgegllhmmaaGreatDoorSyDoor
import Derived.Test.YtfogcgegllhmmaaGreatDoorSyG
import Derived.Test.YtfogcgegllhmmaaGreatDoorSyT
import Derived.SevenTiedAt
import Derived.ProofKit
import Derived.OpenShut
import Derived.ShutString
import Derived.SizedLaws
import Derived.SliceStrings
namespace Go.Proofs.YtfogcgegllhmmaaGreatDoor.syntaxTwice
open Go.ChangeShapes Go.WideShapes Go.ChangeAt Go.RowKit
open Go.ChangeMaps (open_string shut_string)
set_option linter.unusedVariables false

set_option maxRecDepth 100000 in
theorem walk (syn : Int) (s : ByteArray) (w0 : (Lit.int .i64 syn).wf = true) (w1 : s.size ≤ 140737488351232) (w : World) (hg : LaidY w) :
    Calls Tryz.prog 8 #[.int .i64 syn, .string s] w fun e w' => e = .returned (.bool true) ∧ Below w.heap.size w w' := by
  have HL := Lib.hid (fun u (hu : Below w.heap.size w u) => hg.below hu)
  by_cases hbig : 5000 < s.size
  · have d1 : decide ((5000 : Int) < (s.size : Int)) = true := decide_eq_true (by omega)
    clear hbig w0 w1 hg
    go_enter Tryz.func8, Tryz.ntmps8
    go_wp2_with fail
    refine (awake12_any _ (HL.out _ (Below.refl _ _))).mono ?_
    rintro e w2 ⟨rfl, hb⟩
    have HB := Lib.hid hb
    clear hb
    go_wp2_with fail
    go_ret
    exact ⟨rfl, HB.out⟩
  have d1 : decide ((5000 : Int) < (s.size : Int)) = false := decide_eq_false (by omega)
  have H1 := Lib.hid (norm12_any syn s (by omega) w hg)
  cases hN : Mt.normS syn s.data.toList with
  | none =>
    rw [hN] at H1
    unfold normV Mt.optT at H1
    dsimp only [Option.getD, Option.isSome] at H1
    clear hbig w0 w1 hg hN
    go_enter Tryz.func8, Tryz.ntmps8
    go_wp2_with fail
    refine H1.out.mono ?_
    rintro e w2 ⟨rfl, hb⟩
    have HB := Lib.hid hb
    clear hb
    go_wp2_with fail
    refine (awake12_any _ (HL.out _ HB.out)).mono ?_
    rintro e w3 ⟨rfl, hb⟩
    replace HB := Lib.hid (HB.out.trans (hb.mono HB.out.size))
    clear hb
    go_wp2_with fail
    refine (awake12_any _ (HL.out _ HB.out)).mono ?_
    rintro e w4 ⟨rfl, hb⟩
    replace HB := Lib.hid (HB.out.trans (hb.mono HB.out.size))
    clear hb
    go_wp2_with fail
    go_ret
    exact ⟨rfl, HB.out⟩
  | some n =>
    rw [hN] at H1
    unfold normV Mt.optT at H1
    dsimp only [Option.getD, Option.isSome] at H1
    by_cases hc : n = [] ∧ syn = 1
    · obtain ⟨rfl, rfl⟩ := hc
      have e1 : (Mt.str []).toList.isEmpty = true := by rw [ByteArray.toList_eq]; rfl
      have e2 : (Mt.str []).toList = [] := by rw [ByteArray.toList_eq]; rfl
      generalize Mt.str [] = A at *
      clear hbig w0 w1 hg hN
      go_enter Tryz.func8, Tryz.ntmps8
      go_wp2_with fail
      refine H1.out.mono ?_
      rintro e w2 ⟨rfl, hb⟩
      have HB := Lib.hid hb
      clear hb
      go_wp2_with fail
      refine (awake12_any _ (HL.out _ HB.out)).mono ?_
      rintro e w3 ⟨rfl, hb⟩
      replace HB := Lib.hid (HB.out.trans (hb.mono HB.out.size))
      clear hb
      go_wp2_with fail
      refine (awake12_any _ (HL.out _ HB.out)).mono ?_
      rintro e w4 ⟨rfl, hb⟩
      replace HB := Lib.hid (HB.out.trans (hb.mono HB.out.size))
      clear hb
      go_wp2_with fail
      go_ret
      exact ⟨rfl, HB.out⟩
    · have hT := Mt.norm_twice hN hc
      have hz : (Mt.str n).size ≤ 140737488351232 := by
        have h : n.length ≤ 4096 := by
          unfold Mt.normS at hT
          split at hT
          · cases hT
          · omega
        have : (Mt.str n).size = n.length := Mt.str_size n
        omega
      have H2 := Lib.hid (fun u (hu : Below w.heap.size w u) => norm12_any syn (Mt.str n) hz u (HL.out u hu))
      rw [Mt.str_data, hT] at H2
      unfold normV Mt.optT at H2
      dsimp only [Option.getD, Option.isSome] at H2
      have hcase : (¬ (Mt.str n).toList = [] ∧ (Mt.str n).toList.isEmpty = false) ∨ ((Mt.str n).toList = [] ∧ (Mt.str n).toList.isEmpty = true ∧ (syn == 1) = false ∧ ¬ syn = 1) := by
        rw [ByteArray.toList_eq, Mt.str_data]
        by_cases h1 : n = []
        · have h2 : ¬ syn = 1 := fun h => hc ⟨h1, h⟩
          exact .inr ⟨h1, by rw [h1]; rfl, by simpa using h2, h2⟩
        · exact .inl ⟨h1, by simpa using h1⟩
      generalize Mt.str n = A at *
      clear hbig w0 w1 hg hN hc hT hz
      rcases hcase with ⟨hA, hA2⟩ | ⟨hA, hA2, hs1, hs2⟩
      · go_enter Tryz.func8, Tryz.ntmps8
        go_wp2_with fail
        refine H1.out.mono ?_
        rintro e w2 ⟨rfl, hb⟩
        have HB := Lib.hid hb
        clear hb
        go_wp2_with fail
        refine (awake12_any _ (HL.out _ HB.out)).mono ?_
        rintro e w3 ⟨rfl, hb⟩
        replace HB := Lib.hid (HB.out.trans (hb.mono HB.out.size))
        clear hb
        go_wp2_with fail
        refine (H2.out _ HB.out).mono ?_
        rintro e w4 ⟨rfl, hb⟩
        replace HB := Lib.hid (HB.out.trans (hb.mono HB.out.size))
        clear hb
        go_wp2_with fail
        go_ret
        exact ⟨rfl, HB.out⟩
      · go_enter Tryz.func8, Tryz.ntmps8
        go_wp2_with fail
        refine H1.out.mono ?_
        rintro e w2 ⟨rfl, hb⟩
        have HB := Lib.hid hb
        clear hb
        go_wp2_with fail
        refine (awake12_any _ (HL.out _ HB.out)).mono ?_
        rintro e w3 ⟨rfl, hb⟩
        replace HB := Lib.hid (HB.out.trans (hb.mono HB.out.size))
        clear hb
        go_wp2_with fail
        refine (H2.out _ HB.out).mono ?_
        rintro e w4 ⟨rfl, hb⟩
        replace HB := Lib.hid (HB.out.trans (hb.mono HB.out.size))
        clear hb
        go_wp2_with fail
        go_ret
        exact ⟨rfl, HB.out⟩

/-! The step from the walk to the row. -/
theorem own : ownKnob Tryz.prog.godebug = none := by kernel_rfl
theorem laidOut : laidOutB Tryz.prog = true := by kernel_rfl

set_option maxRecDepth 100000 in
theorem lifted (os : Os) (started : os.Started) (H : Type) (enc : TypeId × Value → H) :
    ReturnsInHanded {} Tryz.checked os 8 .any (fun w args => (Rows.syntaxTwiceSpec.pre enc Tryz.prog Tryz.f8 [] false w args ∧ laidMetH Tryz.prog laid7 w) ∧ sizedMet enc Tryz.prog Tryz.f8 (OpenSpec.ofChange Rows.syntaxTwiceSpec) false w args)
      (Rows.syntaxTwiceSpec.post enc Tryz.prog Tryz.f8 false true false false) := by
  refine rowY (s := Rows.syntaxTwiceSpec) own started (by kernel_rfl) Tryz.func8
    (ChangeSpec.witness_shaped (enc := enc) (C := Tryz.checked) (os := os) (X := fun w _ => laidMetH Tryz.prog laid7 w) false (World.laidAll Tryz.prog os laid7) #[.int .i64 0, .string .empty] 8 (World.laidAll_os _ _ _) (World.shaped_of_ZipB (by kernel_rfl) (by kernel_rfl)) (by kernel_rfl) (by kernel_rfl) (by kernel_rfl) (laidY_met os _)) ?_
  intro W base args ds gs before hval0 hW hsz0 hG
  have hsz : (DataW.weightsEach Tryz.prog (Tryz.f8.params.toList ++ Rows.syntaxTwiceSpec.plain.varTypes Tryz.prog) (ds ++ gs)).all (· ≤ reachBytes) = true := hsz0
  have hval : ∀ (j : Nat) t v, Tryz.f8.params[j]? = some t → args[j]? = some v → Value.okWide Tryz.prog W .any base t v := hval0
  have hW' := hW
  obtain ⟨p, q, hA0, hV, rfl, _, _⟩ := hW
  have hA : DataW.TrodAll enc Tryz.prog W 0 (fun _ => true) true Tryz.f8.params.toList args.toList ds p := hA0
  rw [Tryz.params8] at hA hval hsz
  obtain ⟨v0, vs0, d0, ds0, p0, q0, hargs, rfl, rfl, h0, r0⟩ := trodAll_cons hA
  obtain ⟨v1, vs1, d1, ds1, p1, q1, rfl, rfl, rfl, h1, r1⟩ := trodAll_cons r0
  obtain ⟨rfl, rfl, rfl⟩ := trodAll_nil r1
  obtain rfl : args = #[v0, v1] := by cases args; simp_all
  obtain ⟨rfl, rfl⟩ := trodVars_none hV
  obtain ⟨a0, rfl, rfl, rfl, w0⟩ := open_int Tryz.underlying3 (hval 0 3 v0 rfl rfl) h0
  obtain ⟨a1, rfl, rfl, rfl, m1⟩ := open_string Tryz.underlying9 (hval 1 9 v1 rfl rfl) h1
  have w1 : a1.size ≤ 140737488351232 := by
    have h : a1.data.toList.length ≤ reachBytes := sized_string hsz (j := 1) (t := 9) rfl rfl
    simpa [reachBytes] using h
  clear hA0 hval0
  simp only [List.append_nil] at hW'
  refine (walk a0 a1 w0 w1 W hG).mono fun e W' ⟨he, bel⟩ => ?_
  subst he
  exact ⟨_, rfl, _, _, _, [], _, [], hW', trodAll_mk1 (shut_bool Tryz.underlying4 _), (trodAll_cons_mk (shut_int Tryz.underlying3 w0) (trodAll_cons_mk (shut_string Tryz.underlying9 m1) trodAll_mk0)), rfl, bel.frame _, fun h => by cases h⟩

theorem proved : Rows.SyntaxTwiceSaid :=
  OpenClaim.holds_of_wide 8 Tryz.f8 rfl rfl rfl rfl rfl rfl rfl ⟨rfl, rfl, rfl, rfl, rfl⟩ rfl rfl rfl rfl rfl (by kernel_rfl) Tryz.func8 (by kernel_rfl)
    (of_decide_eq_true (by kernel_rfl)) (by unfold Func.isWrapper; first | (rw [if_pos (by decide +kernel)]; kernel_rfl) | (rw [if_neg (by decide +kernel)]; exact ⟨rfl, rfl⟩))
    (fun os started H enc _ => lifted os started H enc)

/-- THE CARD: the row, its two listed variables tied to the program's text (the ties are given). -/
theorem card : Rows.SyntaxTwiceCardSaid :=
  Claim7.holds_tied_plain_at .later [] [.data, .data, .data, .data, .sentinel, .sentinel, .pinned] true Rows.syntaxTwiceCard.stood.harness Rows.syntaxTwiceCard.stood.looks
    proved (fun _ h => by cases h) (by kernel_rfl) (fun _ h => by cases h) syntaxTwice_row_tie rfl ⟨rfl, rfl⟩ (by kernel_rfl) rfl
    (fun f fn hf hfn => by
      obtain rfl : f = 8 := Option.some.inj ((show Tryz.prog.funcNamed "castellan/castellanlaw12.SyntaxTwice" = some 8 by kernel_rfl).symm.trans hf) |>.symm
      obtain rfl : fn = Tryz.f8 := (Option.some.inj (Tryz.func8.symm.trans hfn)).symm
      exact ⟨by kernel_rfl, fun j t ht => by
        rw [Tryz.params8] at ht
        have hm : t ∈ [3, 9] := by simpa using Array.mem_of_getElem? ht
        have hall : ([3, 9].all fun u => !Tryz.prog.wantsStandIn u) = true := by kernel_rfl
        exact (show Tryz.prog.wantsStandIn t = false by simpa using List.all_eq_true.1 hall t hm)⟩)
    (by kernel_rfl)

#print axioms proved
end Go.Proofs.YtfogcgegllhmmaaGreatDoor.syntaxTwice
