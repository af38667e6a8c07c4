/-
  PassOwn is proved: a stored password is its own one's, and no other one's whose digest differs. No condition beyond the statement's own; the two listed package variables start as the program's text lays them.
-/
import Derived.Test.YtklaaallegidcaaDoorCards
import Derived.Test.YtklaaallegidcaaDoorTie
import Derived.Test.YtklaaallegidcaaDoorDoor
import Derived.Test.YtklaaallegidcaaDoorAwake4
import Derived.SevenTiedAt
import Derived.ProofKit
import Derived.OpenShut
import Derived.ShutString
import Derived.SizedLaws
import Derived.SliceStrings
namespace Go.Proofs.YtklaaallegidcaaDoor.passOwn
open Go.ChangeShapes Go.WideShapes Go.ChangeAt Go.RowKit
open Go.ChangeMaps (open_string shut_string)
set_option linter.unusedVariables false

theorem nat_of {n : Int} (h : (Lit.int .u64 n).wf = true) : ∃ m : Nat, n = m ∧ m < 18446744073709551616 := by
  have hb := bounds_u64 h
  exact ⟨n.toNat, by omega, by omega⟩

/-- A password that can't be kept. -/
theorem walk_none (s p : ByteArray) (n : Nat) (e : Int) (he : e = 2 ∨ e = 5) (w : World) (hg : Laid w)
    (hm : Calls Tryd.prog 20 #[.string s, .int .u64 n] w fun x w' => x = .returned (.tuple #[.string ByteArray.empty, .int .i64 e]) ∧ w = w') :
    Calls Tryd.prog 10 #[.string s, .string p, .int .u64 n] w fun e w' => e = .returned (.bool true) ∧ Below w.heap.size w w' := by
  have HM := Lib.hid hm
  have HG := Lib.hid hg
  have he2 : (e == 0) = false := by rcases he with rfl | rfl <;> rfl
  have he1 : (e != 0) = true := by rcases he with rfl | rfl <;> rfl
  clear hm hg he
  go_enter Tryd.func10, Tryd.ntmps10
  go_wp2_with fail
  refine (HM.out).mono ?_
  rintro x w2 ⟨rfl, rfl⟩
  go_wp2_with fail
  refine (awake4_any _ HG.out).mono ?_
  rintro x w2 ⟨rfl, hb⟩
  have HB := Lib.hid hb
  clear hb
  go_wp2_with fail
  refine (awake4_any _ (HG.out.below HB.out (Nat.le_refl _))).mono ?_
  rintro x w3 ⟨rfl, hb⟩
  have HB2 := Lib.hid (HB.out.trans (hb.mono HB.out.size))
  clear hb HB
  go_wp2_with fail
  go_ret
  exact ⟨rfl, HB2.out⟩

/-- Another password that is looked at in vain. -/
theorem walk_long (s p : ByteArray) (n : Nat) (h0 : 0 < s.size) (h1 : s.size ≤ 256) (hp : 2000 < p.size) (w : World) (hg : Laid w) :
    Calls Tryd.prog 10 #[.string s, .string p, .int .u64 n] w fun e w' => e = .returned (.bool true) ∧ Below w.heap.size w w' := by
  have HM := Lib.hid (make_yes s n w hg h0 h1)
  have HG := Lib.hid hg
  obtain ⟨m, hm⟩ : ∃ m, Mt.mk n s = m := ⟨_, rfl⟩
  rw [hm] at HM
  have hp2 : (2000 : Int) < (p.size : Int) := by omega
  clear hm hg h0 h1 hp
  go_enter Tryd.func10, Tryd.ntmps10
  go_wp2_with fail
  refine (HM.out).mono ?_
  rintro x w2 ⟨rfl, hb⟩
  have HB := Lib.hid hb
  clear hb
  go_wp2_with fail
  refine (awake4_any _ (HG.out.below HB.out (Nat.le_refl _))).mono ?_
  rintro x w3 ⟨rfl, hb⟩
  have HB2 := Lib.hid (HB.out.trans (hb.mono HB.out.size))
  clear hb HB
  go_wp2_with fail
  refine (awake4_any _ (HG.out.below HB2.out (Nat.le_refl _))).mono ?_
  rintro x w3 ⟨rfl, hb⟩
  have HB3 := Lib.hid (HB2.out.trans (hb.mono HB2.out.size))
  clear hb HB2
  go_wp2_with fail
  go_ret
  exact ⟨rfl, HB3.out⟩

set_option maxRecDepth 100000 in
theorem walk_main (s p : ByteArray) (n : Nat) (hn : n < 18446744073709551616) (h0 : 0 < s.size) (h1 : s.size ≤ 256) (hp : p.size ≤ 2000) (w : World) (hg : Laid w) :
    Calls Tryd.prog 10 #[.string s, .string p, .int .u64 n] w fun e w' => e = .returned (.bool true) ∧ Below w.heap.size w w' := by
  have HM := Lib.hid (make_yes s n w hg h0 h1)
  have HG := Lib.hid hg
  have HP := Lib.hid (fun u => put_yes n 8 u (by decide) (by decide))
  obtain ⟨K, hK⟩ : ∃ K, strOfNums (Mt.be n 8) = K := ⟨_, rfl⟩
  obtain ⟨m, hm⟩ : ∃ m, Mt.mk n s = m := ⟨_, rfl⟩
  have hd : decide (2000 < p.size) = false := decide_eq_false (by omega)
  rw [hm] at HM
  rw [hK] at HP
  have hK8 : K.size = 8 := by rw [← hK]; exact Mt.key_length n
  have HS1 := Lib.hid (fun B u hB hgu => all_two K s B u hB hgu (by omega) (by omega))
  have HS2 := Lib.hid (fun B u hB hgu => all_two K p B u hB hgu (by omega) (by omega))
  have HST : Hid (Mt.stored m = true ∧ Mt.saltN m = n ∧ Mt.check m s = true) := Lib.hid (by rw [← hm]; exact ⟨Mt.mk_stored n s, Mt.mk_salt n s hn, Mt.mk_check n s hn h0 h1⟩)
  obtain ⟨D1, hD1⟩ : ∃ D, Mt.str (Mt.sha (K.data.toList ++ s.data.toList)) = D := ⟨_, rfl⟩
  obtain ⟨D2, hD2⟩ : ∃ D, Mt.str (Mt.sha (K.data.toList ++ p.data.toList)) = D := ⟨_, rfl⟩
  have HCK : Hid (D1 ≠ D2 → Mt.check m p = false) := Lib.hid (fun hne => by
    rw [← hD1, ← hD2, ← hK] at hne
    cases hc : Mt.check m p with
    | false => rfl
    | true =>
      exfalso
      unfold Mt.check at hc
      simp only [Bool.and_eq_true, decide_eq_true_eq] at hc
      have h2 := hc.2.2
      rw [← hm, Mt.mk_salt n s hn] at h2
      exact hne (by rw [Mt.mk_inj n p s h2]))
  rw [hD1] at HS1
  rw [hD2] at HS2
  have HSA := Lib.hid (fun u => salt_yes m u HST.out.1)
  have HSO := Lib.hid (fun u => stored_any m u)
  have HC1 := Lib.hid (fun u hgu => check_any m s u hgu)
  have HC2 := Lib.hid (fun u hgu => check_any m p u hgu)
  rw [HST.out.2.1] at HSA
  rw [HST.out.1] at HSO
  rw [HST.out.2.2] at HC1
  clear hm hK hg hK8 hD1 hD2 h0 h1 hn HST
  go_enter Tryd.func10, Tryd.ntmps10
  go_wp2_with fail
  refine (HM.out).mono ?_
  rintro x w2 ⟨rfl, hb⟩
  have HB := Lib.hid hb
  clear hb
  go_wp2_with fail
  refine (awake4_any _ (HG.out.below HB.out (Nat.le_refl _))).mono ?_
  rintro x w3 ⟨rfl, hb⟩
  have HB2 := Lib.hid (HB.out.trans (hb.mono HB.out.size))
  clear hb HB
  go_wp2_with fail
  refine (HP.out _).mono ?_
  rintro x w3 ⟨rfl, hb⟩
  have HB3 := Lib.hid (HB2.out.trans (hb.mono HB2.out.size))
  clear hb HB2
  go_wp2_with fail
  refine (HS1.out _ _ rfl (HG.out.below HB3.out (Nat.le_refl _))).mono ?_
  rintro x w3 ⟨rfl, hb⟩
  have HB4 := Lib.hid (HB3.out.trans (hb.mono HB3.out.size))
  clear hb HB3
  go_wp2_with fail
  refine (HS2.out _ _ rfl (HG.out.below HB4.out (Nat.le_refl _))).mono ?_
  rintro x w3 ⟨rfl, hb⟩
  have HB5 := Lib.hid (HB4.out.trans (hb.mono HB4.out.size))
  clear hb HB4
  go_wp2_with fail
  obtain ⟨al, hal⟩ : ∃ al, (D1.toList == D2.toList) = al := ⟨_, rfl⟩
  rw [hal]
  rw [beq_bytes] at hal
  cases al with
  | true =>
    clear hal HCK
    refine (HSA.out _).mono ?_
    rintro x w3 ⟨rfl, hb⟩
    have HB6 := Lib.hid (HB5.out.trans (hb.mono HB5.out.size))
    clear hb HB5
    go_wp2_with fail
    refine (HSO.out _).mono ?_
    rintro x w3 ⟨rfl, rfl⟩
    go_wp2_with fail
    refine (HC1.out _ (HG.out.below HB6.out (Nat.le_refl _))).mono ?_
    rintro x w3 ⟨rfl, hb⟩
    have HB7 := Lib.hid (HB6.out.trans (hb.mono HB6.out.size))
    clear hb HB6
    go_wp2_with fail
    go_ret
    exact ⟨rfl, HB7.out⟩
  | false =>
    have HF := HCK.out (of_decide_eq_false hal)
    rw [HF] at HC2
    clear hal HCK HF
    refine (HSA.out _).mono ?_
    rintro x w3 ⟨rfl, hb⟩
    have HB6 := Lib.hid (HB5.out.trans (hb.mono HB5.out.size))
    clear hb HB5
    go_wp2_with fail
    refine (HSO.out _).mono ?_
    rintro x w3 ⟨rfl, rfl⟩
    go_wp2_with fail
    refine (HC1.out _ (HG.out.below HB6.out (Nat.le_refl _))).mono ?_
    rintro x w3 ⟨rfl, hb⟩
    have HB7 := Lib.hid (HB6.out.trans (hb.mono HB6.out.size))
    clear hb HB6
    go_wp2_with fail
    refine (HC2.out _ (HG.out.below HB7.out (Nat.le_refl _))).mono ?_
    rintro x w3 ⟨rfl, hb⟩
    have HB8 := Lib.hid (HB7.out.trans (hb.mono HB7.out.size))
    clear hb HB7
    go_wp2_with fail
    go_ret
    exact ⟨rfl, HB8.out⟩

theorem walk (s p : ByteArray) (x : Int) (w0 : s.size ≤ 140737488351232) (w1 : p.size ≤ 140737488351232) (w2 : (Lit.int .u64 x).wf = true) (w : World) (hg : Laid w) :
    Calls Tryd.prog 10 #[.string s, .string p, .int .u64 x] w fun e w' => e = .returned (.bool true) ∧ Below w.heap.size w w' := by
  obtain ⟨n, rfl, hn⟩ := nat_of w2
  by_cases h0 : s.size = 0
  · exact walk_none s p n 2 (.inl rfl) w hg (make_empty s n w h0)
  · by_cases h1 : s.size ≤ 256
    · by_cases h2 : p.size ≤ 2000
      · exact walk_main s p n hn (by omega) h1 h2 w hg
      · exact walk_long s p n (by omega) h1 (by omega) w hg
    · exact walk_none s p n 5 (.inr rfl) w hg (make_long s n w (by omega))

/-! The step from the walk to the row. -/
theorem own : ownKnob Tryd.prog.godebug = none := by kernel_rfl
theorem laidOut : laidOutB Tryd.prog = true := by kernel_rfl

set_option maxRecDepth 100000 in
theorem lifted (os : Os) (started : os.Started) (H : Type) (enc : TypeId × Value → H) :
    ReturnsInHanded {} Tryd.checked os 10 .any (fun w args => (Rows.passOwnSpec.pre enc Tryd.prog Tryd.f10 [] false w args ∧ laidMetH Tryd.prog laid2 w) ∧ sizedMet enc Tryd.prog Tryd.f10 (OpenSpec.ofChange Rows.passOwnSpec) false w args)
      (Rows.passOwnSpec.post enc Tryd.prog Tryd.f10 false true false false) := by
  refine returnsInHanded_of_change_and (C := Tryd.checked) (X := fun w _ => laidMetH Tryd.prog laid2 w) (fun _ _ _ hh h => h.of_heap hh) own started (by kernel_rfl) Tryd.func10
    (ChangeSpec.witness_shaped (enc := enc) (C := Tryd.checked) (os := os) (X := fun w _ => laidMetH Tryd.prog laid2 w) false (World.doorLaid Tryd.prog 400 os) #[.string .empty, .string .empty, .int .u64 0] 8 rfl (World.shaped_of_RefB (by kernel_rfl) (by kernel_rfl)) (by kernel_rfl) (by kernel_rfl) (by kernel_rfl) (door_met os _)) ?_
  intro W base args ds gs before hval0 hW _ hsz0 hL _
  have hsz : (DataW.weightsEach Tryd.prog (Tryd.f10.params.toList ++ Rows.passOwnSpec.plain.varTypes Tryd.prog) (ds ++ gs)).all (· ≤ reachBytes) = true := hsz0
  have hG : Laid W := laid_of hL
  have hval : ∀ (j : Nat) t v, Tryd.f10.params[j]? = some t → args[j]? = some v → Value.okWide Tryd.prog W .any base t v := hval0
  have hW' := hW
  obtain ⟨p, q, hA0, hV, rfl, _, _⟩ := hW
  have hA : DataW.TrodAll enc Tryd.prog W 0 (fun _ => true) true Tryd.f10.params.toList args.toList ds p := hA0
  rw [Tryd.params10] at hA hval hsz
  obtain ⟨v0, vs0, d0, ds0, p0, q0, hargs, rfl, rfl, h0, r0⟩ := trodAll_cons hA
  obtain ⟨v1, vs1, d1, ds1, p1, q1, rfl, rfl, rfl, h1, r1⟩ := trodAll_cons r0
  obtain ⟨v2, vs2, d2, ds2, p2, q2, rfl, rfl, rfl, h2, r2⟩ := trodAll_cons r1
  obtain ⟨rfl, rfl, rfl⟩ := trodAll_nil r2
  obtain rfl : args = #[v0, v1, v2] := by cases args; simp_all
  obtain ⟨rfl, rfl⟩ := trodVars_none hV
  obtain ⟨a0, rfl, rfl, rfl, m0⟩ := open_string Tryd.underlying9 (hval 0 9 v0 rfl rfl) h0
  have w0 : a0.size ≤ 140737488351232 := by
    have h : a0.data.toList.length ≤ reachBytes := sized_string hsz (j := 0) (t := 9) rfl rfl
    simpa [reachBytes] using h
  obtain ⟨a1, rfl, rfl, rfl, m1⟩ := open_string Tryd.underlying9 (hval 1 9 v1 rfl rfl) h1
  have w1 : a1.size ≤ 140737488351232 := by
    have h : a1.data.toList.length ≤ reachBytes := sized_string hsz (j := 1) (t := 9) rfl rfl
    simpa [reachBytes] using h
  obtain ⟨a2, rfl, rfl, rfl, w2⟩ := open_int Tryd.underlying34 (hval 2 34 v2 rfl rfl) h2
  clear hA0 hval0
  simp only [List.append_nil] at hW'
  refine (walk a0 a1 a2 w0 w1 w2 W hG).mono fun e W' ⟨he, bel⟩ => ?_
  subst he
  exact ⟨_, rfl, _, _, _, [], _, [], hW', trodAll_mk1 (shut_bool Tryd.underlying4 _), (trodAll_cons_mk (shut_string Tryd.underlying9 m0) (trodAll_cons_mk (shut_string Tryd.underlying9 m1) (trodAll_cons_mk (shut_int Tryd.underlying34 w2) trodAll_mk0))), rfl, bel.frame _, fun h => by cases h⟩

theorem proved : Rows.PassOwnSaid :=
  OpenClaim.holds_of_wide 10 Tryd.f10 rfl rfl rfl rfl rfl rfl rfl ⟨rfl, rfl, rfl, rfl, rfl⟩ rfl rfl rfl rfl rfl (by kernel_rfl) Tryd.func10 (by kernel_rfl)
    (of_decide_eq_true (by kernel_rfl)) (by unfold Func.isWrapper; first | (rw [if_pos (by decide +kernel)]; kernel_rfl) | (rw [if_neg (by decide +kernel)]; exact ⟨rfl, rfl⟩))
    (fun os started H enc _ => lifted os started H enc)

/-- THE CARD: the row, its two listed variables tied to the program's text (the ties are given). -/
theorem card : Rows.PassOwnCardSaid :=
  Claim7.holds_tied_plain_at .later [] [.data, .data] true Rows.passOwnCard.stood.harness Rows.passOwnCard.stood.looks
    proved (fun _ h => by cases h) (by kernel_rfl) (fun _ h => by cases h) passOwn_row_tie rfl ⟨rfl, rfl⟩ (by kernel_rfl) rfl
    (fun f fn hf hfn => by
      obtain rfl : f = 10 := Option.some.inj ((show Tryd.prog.funcNamed "castellan/castellanlaw04.PassOwn" = some 10 by kernel_rfl).symm.trans hf) |>.symm
      obtain rfl : fn = Tryd.f10 := (Option.some.inj (Tryd.func10.symm.trans hfn)).symm
      exact ⟨by kernel_rfl, fun j t ht => by
        rw [Tryd.params10] at ht
        have hm : t ∈ [9, 9, 34] := by simpa using Array.mem_of_getElem? ht
        have hall : ([9, 9, 34].all fun u => !Tryd.prog.wantsStandIn u) = true := by kernel_rfl
        exact (show Tryd.prog.wantsStandIn t = false by simpa using List.all_eq_true.1 hall t hm)⟩)
    (by kernel_rfl)

#print axioms proved
end Go.Proofs.YtklaaallegidcaaDoor.passOwn
