/-
  SyntaxRanks is proved: of any three values of a syntax the order is one. No condition beyond the statement's own; the seven listed package variables start as the program's text lays them.
-/
import Derived.Test.YtfogcgegllhmmaaGreatDoorCards
import Derived.Test.YtfogcgegllhmmaaGreatDoorTie
import Derived.Test.YtfogcgegllhmmaaGreatDoorSyDoor
import Derived.Test.YtfogcgegllhmmaaGreatDoorSyG
import Derived.Test.YtfogcgegllhmmaaGreatDoorSyR
import Derived.Test.YtfogcgegllhmmaaGreatDoorSyRk
import Derived.SevenTiedAt
import Derived.ProofKit
import Derived.OpenShut
import Derived.ShutString
import Derived.SizedLaws
import Derived.SliceStrings
namespace Go.Proofs.YtfogcgegllhmmaaGreatDoor.syntaxRanks
open Go.ChangeShapes Go.WideShapes Go.ChangeAt Go.RowKit
open Go.ChangeMaps (open_string shut_string)
set_option linter.unusedVariables false

set_option maxRecDepth 100000 in
set_option maxHeartbeats 2000000 in
theorem walk (syn : Int) (a b c : ByteArray) (w0 : (Lit.int .i64 syn).wf = true) (w1 : a.size ≤ 140737488351232) (w2 : b.size ≤ 140737488351232) (w3 : c.size ≤ 140737488351232) (w : World) (hg : LaidY w) :
    Calls Tryz.prog 6 #[.int .i64 syn, .string a, .string b, .string c] w fun e w' => e = .returned (.bool true) ∧ Below w.heap.size w w' := by
  by_cases hbig : 5000 < a.size ∨ (a.size ≤ 5000 ∧ 5000 < b.size) ∨ (a.size ≤ 5000 ∧ b.size ≤ 5000 ∧ 5000 < c.size)
  · exact big syn a b c hbig w hg
  have HL := Lib.hid (fun u (hu : Below w.heap.size w u) => hg.below hu)
  have d1 : decide ((5000 : Int) < (a.size : Int)) = false := decide_eq_false (by omega)
  have d2 : decide ((5000 : Int) < (b.size : Int)) = false := decide_eq_false (by omega)
  have d3 : decide ((5000 : Int) < (c.size : Int)) = false := decide_eq_false (by omega)
  have H1 := Lib.hid (order12_any syn a b w1 w2 w hg)
  have H2 := Lib.hid (fun u (hu : Below w.heap.size w u) => order12_any syn b c w2 w3 u (HL.out u hu))
  have H3 := Lib.hid (fun u (hu : Below w.heap.size w u) => order12_any syn a c w1 w3 u (HL.out u hu))
  have H4 := Lib.hid (fun u (hu : Below w.heap.size w u) => order12_any syn b a w2 w1 u (HL.out u hu))
  have H5 := Lib.hid (fun u (hu : Below w.heap.size w u) => norm12_any syn a w1 u (HL.out u hu))
  have H6 := Lib.hid (fun u (hu : Below w.heap.size w u) => norm12_any syn b w2 u (HL.out u hu))
  have HR := Lib.hid (Mt.order_rank (syn := syn) (a := a.data.toList) (b := b.data.toList) (c := c.data.toList))
  clear hbig w0 w1 w2 w3
  unfold orderV at H1 H2 H3 H4
  unfold normV at H5 H6
  obtain ⟨x, xf, hx⟩ : ∃ x xf, Mt.orderS syn a.data.toList b.data.toList = (x, xf) := ⟨_, _, rfl⟩
  obtain ⟨y, yf, hy⟩ : ∃ y yf, Mt.orderS syn b.data.toList c.data.toList = (y, yf) := ⟨_, _, rfl⟩
  obtain ⟨z, zf, hz⟩ : ∃ z zf, Mt.orderS syn a.data.toList c.data.toList = (z, zf) := ⟨_, _, rfl⟩
  obtain ⟨v, vf, hv⟩ : ∃ v vf, Mt.orderS syn b.data.toList a.data.toList = (v, vf) := ⟨_, _, rfl⟩
  rw [hx] at H1
  rw [hy] at H2
  rw [hz] at H3
  rw [hv] at H4
  dsimp only at H1 H2 H3 H4
  have HX := Lib.hid hx
  have HY := Lib.hid hy
  have HZ := Lib.hid hz
  have HV := Lib.hid hv
  clear hx hy hz hv
  by_cases hf : xf = false ∨ (xf = true ∧ yf = false)
  · exact no syn a b c w hg d1 d2 d3 x y z v xf yf zf vf hf H1.out H2.out H3.out H4.out
  obtain rfl : xf = true := by cases xf with
    | true => rfl
    | false => exact absurd (.inl rfl) hf
  obtain rfl : yf = true := by cases yf with
    | true => rfl
    | false => exact absurd (.inr ⟨rfl, rfl⟩) hf
  clear hf hg
  obtain ⟨A, B, hA, hB, x', y', z', v', e1, e2, e3, e4, hr⟩ := HR.out (by rw [HX.out]) (by rw [HY.out])
  have q1 := HX.out.symm.trans e1
  have q2 := HY.out.symm.trans e2
  have q3 := HZ.out.symm.trans e3
  have q4 := HV.out.symm.trans e4
  injection q1 with q1 _
  injection q2 with q2 _
  injection q3 with q3 q3'
  injection q4 with q4 q4'
  subst q1 q2 q3 q4 q3' q4'
  rw [hA] at H5
  rw [hB] at H6
  unfold Mt.optT at H5 H6
  dsimp only [Option.getD, Option.isSome] at H5 H6
  have HK := Lib.hid hr
  clear hr e1 e2 e3 e4 hA hB HR HX HY HZ HV
  have hs : (decide (A = B) = true ∧ Mt.str A = Mt.str B) ∨ (decide (A = B) = false ∧ ¬ (Mt.str A).toList = (Mt.str B).toList ∧ ((Mt.str A).toList == (Mt.str B).toList) = false) := by
    by_cases h : A = B
    · exact .inl ⟨by simpa using h, by rw [h]⟩
    · have h2 : ¬ (Mt.str A).toList = (Mt.str B).toList := by rw [ByteArray.toList_eq, ByteArray.toList_eq]; exact h
      exact .inr ⟨by simpa using h, h2, by simpa using h2⟩
  generalize Mt.str A = SA at *
  generalize Mt.str B = SB at *
  generalize decide (A = B) = e0 at *
  go_enter Tryz.func6, Tryz.ntmps6
  go_wp2_with fail
  refine H1.out.mono ?_
  rintro e w2 ⟨rfl, hb⟩
  have HB := Lib.hid hb
  clear hb
  go_wp2_with fail
  refine (H2.out _ HB.out).mono ?_
  rintro e w3 ⟨rfl, hb⟩
  replace HB := Lib.hid (HB.out.trans (hb.mono HB.out.size))
  clear hb
  go_wp2_with fail
  refine (H3.out _ HB.out).mono ?_
  rintro e w4 ⟨rfl, hb⟩
  replace HB := Lib.hid (HB.out.trans (hb.mono HB.out.size))
  clear hb
  go_wp2_with fail
  refine (H4.out _ HB.out).mono ?_
  rintro e w5 ⟨rfl, hb⟩
  replace HB := Lib.hid (HB.out.trans (hb.mono HB.out.size))
  clear hb
  go_wp2_with fail
  refine (awake12_any _ (HL.out _ HB.out)).mono ?_
  rintro e w6 ⟨rfl, hb⟩
  replace HB := Lib.hid (HB.out.trans (hb.mono HB.out.size))
  clear hb
  go_wp2_with fail
  refine (H5.out _ HB.out).mono ?_
  rintro e w7 ⟨rfl, hb⟩
  replace HB := Lib.hid (HB.out.trans (hb.mono HB.out.size))
  clear hb
  go_wp2_with fail
  refine (H6.out _ HB.out).mono ?_
  rintro e w8 ⟨rfl, hb⟩
  replace HB := Lib.hid (HB.out.trans (hb.mono HB.out.size))
  clear hb
  obtain ⟨k1, k2, k3, k4, k5, k6, k7⟩ := HK.out
  clear H1 H2 H3 H4 H5 H6 HL HK
  subst k4
  rcases hs with ⟨rfl, rfl⟩ | ⟨rfl, hs1, hs2⟩
  · have hx : x = 0 := of_decide_eq_true k5.symm
    subst hx
    clear k1 k5
    rcases k2 with rfl | rfl | rfl
    · have g1 : decide (z ≤ 0) = true := decide_eq_true (k6 (by decide) (by decide))
      clear k3 k6 k7
      go_wp2_with fail
      go_ret
      exact ⟨rfl, HB.out⟩
    · have g : z = 0 := by have := k6 (by decide) (by decide); have := k7 (by decide) (by decide); omega
      subst g
      clear k3 k6 k7
      go_wp2_with fail
      go_ret
      exact ⟨rfl, HB.out⟩
    · have g1 : decide (0 ≤ z) = true := decide_eq_true (k7 (by decide) (by decide))
      clear k3 k6 k7
      go_wp2_with fail
      go_ret
      exact ⟨rfl, HB.out⟩
  · have hx : ¬ x = 0 := of_decide_eq_false k5.symm
    rcases k1 with rfl | rfl | rfl
    · clear k5 hx k7
      rcases k2 with rfl | rfl | rfl
      · have g1 : decide (z ≤ 0) = true := decide_eq_true (k6 (by decide) (by decide))
        clear k3 k6
        go_wp2_with fail
        go_ret
        exact ⟨rfl, HB.out⟩
      · have g1 : decide (z ≤ 0) = true := decide_eq_true (k6 (by decide) (by decide))
        clear k3 k6
        go_wp2_with fail
        go_ret
        exact ⟨rfl, HB.out⟩
      · clear k3 k6
        go_wp2_with fail
        go_ret
        exact ⟨rfl, HB.out⟩
    · exact absurd rfl hx
    · clear k5 hx k6
      rcases k2 with rfl | rfl | rfl
      · clear k3 k7
        go_wp2_with fail
        go_ret
        exact ⟨rfl, HB.out⟩
      · have g1 : decide (0 ≤ z) = true := decide_eq_true (k7 (by decide) (by decide))
        clear k3 k7
        go_wp2_with fail
        go_ret
        exact ⟨rfl, HB.out⟩
      · have g1 : decide (0 ≤ z) = true := decide_eq_true (k7 (by decide) (by decide))
        clear k3 k7
        go_wp2_with fail
        go_ret
        exact ⟨rfl, HB.out⟩

/-! The step from the walk to the row. -/
theorem own : ownKnob Tryz.prog.godebug = none := by kernel_rfl
theorem laidOut : laidOutB Tryz.prog = true := by kernel_rfl

set_option maxRecDepth 100000 in
theorem lifted (os : Os) (started : os.Started) (H : Type) (enc : TypeId × Value → H) :
    ReturnsInHanded {} Tryz.checked os 6 .any (fun w args => (Rows.syntaxRanksSpec.pre enc Tryz.prog Tryz.f6 [] false w args ∧ laidMetH Tryz.prog laid7 w) ∧ sizedMet enc Tryz.prog Tryz.f6 (OpenSpec.ofChange Rows.syntaxRanksSpec) false w args)
      (Rows.syntaxRanksSpec.post enc Tryz.prog Tryz.f6 false true false false) := by
  refine rowY (s := Rows.syntaxRanksSpec) own started (by kernel_rfl) Tryz.func6
    (ChangeSpec.witness_shaped (enc := enc) (C := Tryz.checked) (os := os) (X := fun w _ => laidMetH Tryz.prog laid7 w) false (World.laidAll Tryz.prog os laid7) #[.int .i64 0, .string .empty, .string .empty, .string .empty] 8 (World.laidAll_os _ _ _) (World.shaped_of_ZipB (by kernel_rfl) (by kernel_rfl)) (by kernel_rfl) (by kernel_rfl) (by kernel_rfl) (laidY_met os _)) ?_
  intro W base args ds gs before hval0 hW hsz0 hG
  have hsz : (DataW.weightsEach Tryz.prog (Tryz.f6.params.toList ++ Rows.syntaxRanksSpec.plain.varTypes Tryz.prog) (ds ++ gs)).all (· ≤ reachBytes) = true := hsz0
  have hval : ∀ (j : Nat) t v, Tryz.f6.params[j]? = some t → args[j]? = some v → Value.okWide Tryz.prog W .any base t v := hval0
  have hW' := hW
  obtain ⟨p, q, hA0, hV, rfl, _, _⟩ := hW
  have hA : DataW.TrodAll enc Tryz.prog W 0 (fun _ => true) true Tryz.f6.params.toList args.toList ds p := hA0
  rw [Tryz.params6] at hA hval hsz
  obtain ⟨v0, vs0, d0, ds0, p0, q0, hargs, rfl, rfl, h0, r0⟩ := trodAll_cons hA
  obtain ⟨v1, vs1, d1, ds1, p1, q1, rfl, rfl, rfl, h1, r1⟩ := trodAll_cons r0
  obtain ⟨v2, vs2, d2, ds2, p2, q2, rfl, rfl, rfl, h2, r2⟩ := trodAll_cons r1
  obtain ⟨v3, vs3, d3, ds3, p3, q3, rfl, rfl, rfl, h3, r3⟩ := trodAll_cons r2
  obtain ⟨rfl, rfl, rfl⟩ := trodAll_nil r3
  obtain rfl : args = #[v0, v1, v2, v3] := by cases args; simp_all
  obtain ⟨rfl, rfl⟩ := trodVars_none hV
  obtain ⟨a0, rfl, rfl, rfl, w0⟩ := open_int Tryz.underlying3 (hval 0 3 v0 rfl rfl) h0
  obtain ⟨a1, rfl, rfl, rfl, m1⟩ := open_string Tryz.underlying9 (hval 1 9 v1 rfl rfl) h1
  have w1 : a1.size ≤ 140737488351232 := by
    have h : a1.data.toList.length ≤ reachBytes := sized_string hsz (j := 1) (t := 9) rfl rfl
    simpa [reachBytes] using h
  obtain ⟨a2, rfl, rfl, rfl, m2⟩ := open_string Tryz.underlying9 (hval 2 9 v2 rfl rfl) h2
  have w2 : a2.size ≤ 140737488351232 := by
    have h : a2.data.toList.length ≤ reachBytes := sized_string hsz (j := 2) (t := 9) rfl rfl
    simpa [reachBytes] using h
  obtain ⟨a3, rfl, rfl, rfl, m3⟩ := open_string Tryz.underlying9 (hval 3 9 v3 rfl rfl) h3
  have w3 : a3.size ≤ 140737488351232 := by
    have h : a3.data.toList.length ≤ reachBytes := sized_string hsz (j := 3) (t := 9) rfl rfl
    simpa [reachBytes] using h
  clear hA0 hval0
  simp only [List.append_nil] at hW'
  refine (walk a0 a1 a2 a3 w0 w1 w2 w3 W hG).mono fun e W' ⟨he, bel⟩ => ?_
  subst he
  exact ⟨_, rfl, _, _, _, [], _, [], hW', trodAll_mk1 (shut_bool Tryz.underlying4 _), (trodAll_cons_mk (shut_int Tryz.underlying3 w0) (trodAll_cons_mk (shut_string Tryz.underlying9 m1) (trodAll_cons_mk (shut_string Tryz.underlying9 m2) (trodAll_cons_mk (shut_string Tryz.underlying9 m3) trodAll_mk0)))), rfl, bel.frame _, fun h => by cases h⟩

theorem proved : Rows.SyntaxRanksSaid :=
  OpenClaim.holds_of_wide 6 Tryz.f6 rfl rfl rfl rfl rfl rfl rfl ⟨rfl, rfl, rfl, rfl, rfl⟩ rfl rfl rfl rfl rfl (by kernel_rfl) Tryz.func6 (by kernel_rfl)
    (of_decide_eq_true (by kernel_rfl)) (by unfold Func.isWrapper; first | (rw [if_pos (by decide +kernel)]; kernel_rfl) | (rw [if_neg (by decide +kernel)]; exact ⟨rfl, rfl⟩))
    (fun os started H enc _ => lifted os started H enc)

/-- THE CARD: the row, its two listed variables tied to the program's text (the ties are given). -/
theorem card : Rows.SyntaxRanksCardSaid :=
  Claim7.holds_tied_plain_at .later [] [.data, .data, .data, .data, .sentinel, .sentinel, .pinned] true Rows.syntaxRanksCard.stood.harness Rows.syntaxRanksCard.stood.looks
    proved (fun _ h => by cases h) (by kernel_rfl) (fun _ h => by cases h) syntaxRanks_row_tie rfl ⟨rfl, rfl⟩ (by kernel_rfl) rfl
    (fun f fn hf hfn => by
      obtain rfl : f = 6 := Option.some.inj ((show Tryz.prog.funcNamed "castellan/castellanlaw12.SyntaxRanks" = some 6 by kernel_rfl).symm.trans hf) |>.symm
      obtain rfl : fn = Tryz.f6 := (Option.some.inj (Tryz.func6.symm.trans hfn)).symm
      exact ⟨by kernel_rfl, fun j t ht => by
        rw [Tryz.params6] at ht
        have hm : t ∈ [3, 9, 9, 9] := by simpa using Array.mem_of_getElem? ht
        have hall : ([3, 9, 9, 9].all fun u => !Tryz.prog.wantsStandIn u) = true := by kernel_rfl
        exact (show Tryz.prog.wantsStandIn t = false by simpa using List.all_eq_true.1 hall t hm)⟩)
    (by kernel_rfl)

#print axioms proved
end Go.Proofs.YtfogcgegllhmmaaGreatDoor.syntaxRanks
