/-
  PageOnce is proved: a cookie that was taken, by whomever with its connection, is none any more; another connection's taking changes nothing. No condition.
-/
import Derived.Test.YtcijjblcoelabaaRows
import Derived.Test.YtcijjblcoelabaaPgL
import Derived.ProofKit
import Derived.OpenShut
import Derived.SizedLaws
set_option linter.unusedVariables false
set_option linter.unusedSimpArgs false
namespace Go.Proofs.Ytcijjblcoelabaa.pageOnce
open Go.ChangeShapes Go.WideShapes Go.ChangeAt Go.RowKit Go.Shelf
set_option linter.unusedVariables false

set_option maxRecDepth 100000 in
set_option maxHeartbeats 4000000 in
theorem walk (aD aC aV aA aO : Int) (aK aS : ByteArray) (cD cC cV cA cO : Int) (cK cS : ByteArray) (_ : (Lit.int .i64 aD).wf = true) (hac : (Lit.int .i64 aC).wf = true) (_ : (Lit.int .i64 cD).wf = true) (hcc : (Lit.int .i64 cC).wf = true) (w : World) :
    Calls Try.prog 8 #[actV aD aC aV aA aO aK aS, actV cD cC cV cA cO cK cS] w fun e w' => e = .returned (.bool true) ∧ Below w.heap.size w w' := by
  unfold actV
  obtain ⟨w1, hw1⟩ : ∃ u, w.alloc (.cells #[.int .i64 aD, .int .i64 aC, .int .i64 aV, .int .i64 aA, .int .i64 aO, .string aK, .string aS] 60) = u := ⟨_, rfl⟩
  have hA : Below w.heap.size w w1 := by rw [← hw1]; exact (Below.refl _ w).alloc (Nat.le_refl _) _
  have hx1 : w1.heap[w.heap.size]? = some (.cells #[.int .i64 aD, .int .i64 aC, .int .i64 aV, .int .i64 aA, .int .i64 aO, .string aK, .string aS] 60) := by rw [← hw1]; exact heap_alloc_new w _
  obtain ⟨w2, hw2⟩ : ∃ u, w1.alloc (.cells #[.int .i64 cD, .int .i64 cC, .int .i64 cV, .int .i64 cA, .int .i64 cO, .string cK, .string cS] 60) = u := ⟨_, rfl⟩
  have hA2 : Below w1.heap.size w1 w2 := by rw [← hw2]; exact (Below.refl _ w1).alloc (Nat.le_refl _) _
  have hx2 : w2.heap[w1.heap.size]? = some (.cells #[.int .i64 cD, .int .i64 cC, .int .i64 cV, .int .i64 cA, .int .i64 cO, .string cK, .string cS] 60) := by rw [← hw2]; exact heap_alloc_new w1 _
  have hx12 := (hA2.block _ (lt_of_block hx1)).trans hx1
  have hAA := hA.trans (hA2.mono hA.size)
  have HQ : Hid (∀ u, Below w2.heap.size w2 u → Below w.heap.size w u ∧ (u.cell? ⟨w.heap.size, 1, none⟩ = some (.int .i64 aC) ∧ u.cell? ⟨w.heap.size, 2, none⟩ = some (.int .i64 aV) ∧ u.cell? ⟨w.heap.size, 3, none⟩ = some (.int .i64 aA) ∧ u.cell? ⟨w.heap.size, 5, none⟩ = some (.string aK)) ∧ (u.cell? ⟨w1.heap.size, 1, none⟩ = some (.int .i64 cC) ∧ u.cell? ⟨w1.heap.size, 2, none⟩ = some (.int .i64 cV) ∧ u.cell? ⟨w1.heap.size, 5, none⟩ = some (.string cK))) := Lib.hid (fun u hu => ⟨hAA.trans (hu.mono hAA.size), act_cells ((hu.block _ (lt_of_block hx12)).trans hx12), ⟨(act_cells ((hu.block _ (lt_of_block hx2)).trans hx2)).1, (act_cells ((hu.block _ (lt_of_block hx2)).trans hx2)).2.1, (act_cells ((hu.block _ (lt_of_block hx2)).trans hx2)).2.2.2⟩⟩)
  have HAC := Lib.hid hac
  have HCC := Lib.hid hcc
  obtain ⟨zk, hzk⟩ : ∃ z, decide (aK = cK) = z := ⟨_, rfl⟩
  obtain ⟨zv, hzv⟩ : ∃ z, decide (aV = cV) = z := ⟨_, rfl⟩
  have hk1 : (cK.toList == aK.toList) = zk := by rw [beq_decG, ← hzk]; exact decide_eq_decide.2 eq_comm
  have hv1 : (cV == aV) = zv := by rw [← hzv]; exact decide_eq_decide.2 eq_comm
  have HZ := Lib.hid (And.intro hzk hzv)
  obtain ⟨z0, hz0⟩ : ∃ z, ((0 : Int) == aA) = z := ⟨_, rfl⟩
  have haa : (aA == aA) = true := beq_self_eq_true _
  have HR2 := Lib.hid (Below.refl w2.heap.size w2)
  have HTK : Hid (∀ (u : World) (B : Nat) (S : Nat → Prop) (N : Nat), N ≤ 100 → IsBook u B S N 1 [(aC, ⟨1, aK, aV, aA⟩)] → Calls Try.prog 26 #[.pointer (some ⟨B, 0, none⟩), .int .i64 aC, .string (ck 1), .string cK, .int .i64 cV] u fun e w' => e = .returned (.tuple #[.int .i64 (if (zk && zv) = true then aA else 0), .bool (zk && zv)]) ∧ IsBook w' B S (N + 1) 1 [] ∧ OnlyP S u w') := Lib.hid (fun u B S N hN hb => by
    have h := take26_any (c := aC) (ver := cV) (ck 1) cK HAC.out (by omega) hb
    have hm : decide (ck (⟨1, aK, aV, aA⟩ : Mt.Pl).num = ck 1) = true := by simp
    rw [Mt.tookB_one, Mt.takeB_one, if_pos hm, if_pos hm] at h
    rw [← HZ.out.1, ← HZ.out.2]
    refine h.mono fun e w' ⟨h1, h2, h3⟩ => ⟨?_, h2, h3⟩
    rw [h1]
    by_cases hq : (decide (aK = cK) && decide (aV = cV)) = true
    · rw [if_pos hq, if_pos hq, hq]
    · rw [if_neg hq, if_neg hq, Bool.eq_false_iff.2 hq])
  have HTA : Hid (∀ (u : World) (B : Nat) (S : Nat → Prop) (N : Nat), N ≤ 100 → IsBook u B S N 1 [] → Calls Try.prog 26 #[.pointer (some ⟨B, 0, none⟩), .int .i64 aC, .string (ck 1), .string aK, .int .i64 aV] u fun e w' => e = .returned (.tuple #[.int .i64 0, .bool false]) ∧ IsBook w' B S (N + 1) 1 [] ∧ OnlyP S u w') := Lib.hid (fun u B S N hN hb => take26_any (c := aC) (ver := aV) (ck 1) aK HAC.out (by omega) hb)
  have HTC : Hid (aC ≠ cC → ∀ (u : World) (B : Nat) (S : Nat → Prop) (N : Nat), N ≤ 100 → IsBook u B S N 1 [(aC, ⟨1, aK, aV, aA⟩)] → Calls Try.prog 26 #[.pointer (some ⟨B, 0, none⟩), .int .i64 cC, .string (ck 1), .string aK, .int .i64 aV] u fun e w' => e = .returned (.tuple #[.int .i64 0, .bool false]) ∧ IsBook w' B S (N + 1) 1 [(aC, ⟨1, aK, aV, aA⟩)] ∧ OnlyP S u w') := Lib.hid (fun hne u B S N hN hb => by
    have h := take26_any (c := cC) (ver := aV) (ck 1) aK HCC.out (by omega) hb
    have e1 : ∀ m good, Mt.tookB m good cC [(aC, ⟨1, aK, aV, aA⟩)] = (0, false) := fun m good => by simp [Mt.tookB, hne]
    have e2 : ∀ m, Mt.takeB m cC [(aC, ⟨1, aK, aV, aA⟩)] = [(aC, ⟨1, aK, aV, aA⟩)] := fun m => by unfold Mt.takeB; rw [List.filter_cons_of_pos (by simp [hne])]; rfl
    rw [e1, e2] at h
    exact h)
  have HKP : Hid (∀ (u : World) (B : Nat) (S : Nat → Prop), IsBook u B S 0 0 [] → Calls Try.prog 30 #[.pointer (some ⟨B, 0, none⟩), .int .i64 aC, .string aK, .int .i64 aV, .int .i64 aA] u fun e w' => e = .returned (.string (ck 1)) ∧ ∃ S', IsBook w' B S' 1 1 [(aC, ⟨1, aK, aV, aA⟩)] ∧ OnlyP S u w' ∧ ∀ k, S' k → S k ∨ u.heap.size ≤ k) := Lib.hid (fun u B S hb => by
    have h := keep26_any (c := aC) (ver := aV) (at' := aA) aK HAC.out (by decide) hb
    rw [Nat.zero_add, Mt.keepB_one] at h
    exact h)
  obtain ⟨q, hq⟩ : ∃ q, (zk && zv) = q := ⟨_, rfl⟩
  rw [hq] at HTK
  have HQB := Lib.hid hq
  clear hq
  obtain ⟨T9, hT9⟩ : ∃ T9 : Int, (if q = true then aA else 0) = T9 := ⟨_, rfl⟩
  rw [hT9] at HTK
  have HT9 := Lib.hid hT9
  clear hT9
  generalize ck 1 = CK at *
  have HLT : Hid (w1.heap.size < w2.heap.size ∧ w.heap.size < w1.heap.size) := Lib.hid ⟨lt_of_block hx2, lt_of_block hx1⟩
  clear hA hx1 hA2 hx2 hx12 hAA hac hcc hzk hzv
  go_enter Try.func8, Try.ntmps8
  go_upto_region 1 with fail
  clear hw1 hw2
  go_wp2_with fail
  refine (new26_any _).mono ?_
  rintro e w3 ⟨B, S0, rfl, hb, hbel, hS⟩
  have HK3 := Lib.hid (HKP.out w3 B S0 hb)
  have HR3 := Lib.hid (And.intro hbel hS)
  obtain ⟨-, ⟨a1, a2, a3, a5⟩, ⟨c1, c2, c5⟩⟩ := HQ.out w3 hbel
  clear hb hbel hS
  go_wp2_with fail
  refine (HK3.out).mono ?_
  rintro e w4 ⟨rfl, S, hb, hop, hS⟩
  have HB4 := Lib.hid hb
  have HR4 : Hid (Below w2.heap.size w2 w4 ∧ ∀ k, S k → w2.heap.size ≤ k) := Lib.hid ⟨HR3.out.1.trans (hop.toBelow HR3.out.2 HR3.out.1.size), fun k hk => by rcases hS k hk with h | h; exact HR3.out.2 k h; have := HR3.out.1.size; omega⟩
  clear hb hop hS a1 a2 a3 a5 c1 c2 c5
  obtain ⟨-, ⟨a1, a2, a3, a5⟩, ⟨c1, c2, c5⟩⟩ := HQ.out w4 HR4.out.1
  by_cases hcd : aC = cC
  · subst hcd
    have d1 : (aC == aC) = true := beq_self_eq_true _
    have d2 : (aC != aC) = false := by simp
    clear HTC
    have HT7 := Lib.hid (HTK.out w4 B S 1 (by decide) HB4.out)
    clear HTK
    go_wp2_with fail
    refine (HT7.out).mono ?_
    rintro e w7 ⟨rfl, hb, hop⟩
    have HB7 := Lib.hid hb
    have HR7 : Hid (Below w2.heap.size w2 w7 ∧ ∀ k, S k → w2.heap.size ≤ k) := Lib.hid ⟨HR4.out.1.trans (hop.toBelow HR4.out.2 HR4.out.1.size), HR4.out.2⟩
    clear hb hop HT7 a1 a2 a3 a5 c1 c2 c5
    obtain ⟨-, ⟨a1, a2, a3, a5⟩, ⟨c1, c2, c5⟩⟩ := HQ.out w7 HR7.out.1
    have HT8 := Lib.hid (HTA.out w7 B S _ (by decide) HB7.out)
    go_upto_region 8 with fail
    go_cut [11] from 60 to 71 (fun t11 wx => t11 = .bool q ∧ wx = w7)
    case first =>
      cases zk
      · go_wp2_with fail
        all_goals (go_meet; exact ⟨by rw [← HQB.out]; rfl, rfl⟩)
      · go_wp2_with fail
        all_goals (go_meet; exact ⟨by rw [← HQB.out]; rfl, rfl⟩)
    case rest =>
      obtain ⟨rfl, hcw⟩ := hcut
      obtain rfl := hcw.symm
      go_wp2_with fail
      refine (HT8.out).mono ?_
      rintro e w8 ⟨rfl, hb, hop⟩
      have HB8 := Lib.hid hb
      have HR8 : Hid (Below w2.heap.size w2 w8 ∧ ∀ k, S k → w2.heap.size ≤ k) := Lib.hid ⟨HR7.out.1.trans (hop.toBelow HR7.out.2 HR7.out.1.size), HR7.out.2⟩
      clear hb hop HT8 a1 a2 a3 a5 c1 c2 c5
      obtain ⟨-, ⟨a1, a2, a3, a5⟩, ⟨c1, c2, c5⟩⟩ := HQ.out w8 HR8.out.1
      go_wp2_with fail
      refine (awake26_any _).mono ?_
      rintro e w9 ⟨rfl, hb⟩
      have HL9 := Lib.hid (len26_any (by decide) (HB8.out.below hb))
      have HR9 := Lib.hid (HR8.out.1.trans (hb.mono HR8.out.1.size))
      clear hb a1 a2 a3 a5 c1 c2 c5
      obtain ⟨hbw, ⟨a1, a2, a3, a5⟩, ⟨c1, c2, c5⟩⟩ := HQ.out w9 HR9.out
      have HBW := Lib.hid hbw
      clear hbw
      cases q
      · obtain rfl : (0 : Int) = T9 := HT9.out
        cases z0
        all_goals
          go_wp2_with fail
          refine (HL9.out).mono ?_
          rintro e w10 ⟨rfl, hb⟩
          go_wp2_with fail
          all_goals (go_ret; exact ⟨rfl, HBW.out.trans (hb.mono HBW.out.size)⟩)
      · obtain rfl : aA = T9 := HT9.out
        go_wp2_with fail
        refine (HL9.out).mono ?_
        rintro e w10 ⟨rfl, hb⟩
        go_wp2_with fail
        all_goals (go_ret; exact ⟨rfl, HBW.out.trans (hb.mono HBW.out.size)⟩)
  · have d1 : (cC == aC) = false := by rw [beq_eq_false_iff_ne]; exact fun e => hcd e.symm
    have d2 : (cC != aC) = true := by rw [bne_iff_ne]; exact fun e => hcd e.symm
    have HC4 := Lib.hid (HTC.out hcd w4 B S 1 (by decide) HB4.out)
    clear HTC hcd
    go_wp2_with fail
    refine (HC4.out).mono ?_
    rintro e w5 ⟨rfl, hb, hop⟩
    have HB5 := Lib.hid hb
    have HR5 : Hid (Below w2.heap.size w2 w5 ∧ ∀ k, S k → w2.heap.size ≤ k) := Lib.hid ⟨HR4.out.1.trans (hop.toBelow HR4.out.2 HR4.out.1.size), HR4.out.2⟩
    have HL5 := Lib.hid (len26_any (by decide) hb)
    clear hb hop HC4 a1 a2 a3 a5 c1 c2 c5
    go_wp2_with fail
    refine (HL5.out).mono ?_
    rintro e w6 ⟨rfl, hb⟩
    have HB6 := Lib.hid (HB5.out.below hb)
    have HR6 : Hid (Below w2.heap.size w2 w6 ∧ ∀ k, S k → w2.heap.size ≤ k) := Lib.hid ⟨HR5.out.1.trans (hb.mono HR5.out.1.size), HR5.out.2⟩
    clear hb HL5
    obtain ⟨-, ⟨a1, a2, a3, a5⟩, ⟨c1, c2, c5⟩⟩ := HQ.out w6 HR6.out.1
    have HT7 := Lib.hid (HTK.out w6 B S (1 + 1) (by decide) HB6.out)
    clear HTK
    go_wp2_with fail
    refine (HT7.out).mono ?_
    rintro e w7 ⟨rfl, hb, hop⟩
    have HB7 := Lib.hid hb
    have HR7 : Hid (Below w2.heap.size w2 w7 ∧ ∀ k, S k → w2.heap.size ≤ k) := Lib.hid ⟨HR6.out.1.trans (hop.toBelow HR6.out.2 HR6.out.1.size), HR6.out.2⟩
    clear hb hop HT7 a1 a2 a3 a5 c1 c2 c5
    obtain ⟨-, ⟨a1, a2, a3, a5⟩, ⟨c1, c2, c5⟩⟩ := HQ.out w7 HR7.out.1
    have HT8 := Lib.hid (HTA.out w7 B S _ (by decide) HB7.out)
    go_upto_region 8 with fail
    go_cut [11] from 60 to 71 (fun t11 wx => t11 = .bool q ∧ wx = w7)
    case first =>
      cases zk
      · go_wp2_with fail
        all_goals (go_meet; exact ⟨by rw [← HQB.out]; rfl, rfl⟩)
      · go_wp2_with fail
        all_goals (go_meet; exact ⟨by rw [← HQB.out]; rfl, rfl⟩)
    case rest =>
      obtain ⟨rfl, hcw⟩ := hcut
      obtain rfl := hcw.symm
      go_wp2_with fail
      refine (HT8.out).mono ?_
      rintro e w8 ⟨rfl, hb, hop⟩
      have HB8 := Lib.hid hb
      have HR8 : Hid (Below w2.heap.size w2 w8 ∧ ∀ k, S k → w2.heap.size ≤ k) := Lib.hid ⟨HR7.out.1.trans (hop.toBelow HR7.out.2 HR7.out.1.size), HR7.out.2⟩
      clear hb hop HT8 a1 a2 a3 a5 c1 c2 c5
      obtain ⟨-, ⟨a1, a2, a3, a5⟩, ⟨c1, c2, c5⟩⟩ := HQ.out w8 HR8.out.1
      go_wp2_with fail
      refine (awake26_any _).mono ?_
      rintro e w9 ⟨rfl, hb⟩
      have HL9 := Lib.hid (len26_any (by decide) (HB8.out.below hb))
      have HR9 := Lib.hid (HR8.out.1.trans (hb.mono HR8.out.1.size))
      clear hb a1 a2 a3 a5 c1 c2 c5
      obtain ⟨hbw, ⟨a1, a2, a3, a5⟩, ⟨c1, c2, c5⟩⟩ := HQ.out w9 HR9.out
      have HBW := Lib.hid hbw
      clear hbw
      cases q
      · obtain rfl : (0 : Int) = T9 := HT9.out
        cases z0
        all_goals
          go_wp2_with fail
          refine (HL9.out).mono ?_
          rintro e w10 ⟨rfl, hb⟩
          go_wp2_with fail
          all_goals (go_ret; exact ⟨rfl, HBW.out.trans (hb.mono HBW.out.size)⟩)
      · obtain rfl : aA = T9 := HT9.out
        go_wp2_with fail
        refine (HL9.out).mono ?_
        rintro e w10 ⟨rfl, hb⟩
        go_wp2_with fail
        all_goals (go_ret; exact ⟨rfl, HBW.out.trans (hb.mono HBW.out.size)⟩)

/-! The step from the walk to the row. -/
theorem own : ownKnob Try.prog.godebug = none := by kernel_rfl
theorem laidOut : laidOutB Try.prog = true := by kernel_rfl

set_option maxRecDepth 100000 in
theorem lifted (os : Os) (started : os.Started) (H : Type) (enc : TypeId × Value → H) :
    ReturnsInHanded {} Try.checked os 8 .any (Rows.pageOnceSpec.pre6 enc Try.prog Try.f8 Rows.pageOnceRow.domain false) (Rows.pageOnceSpec.post enc Try.prog Try.f8 false true false false) := by
  refine returnsInHanded_of_change_sized (C := Try.checked) own started (by kernel_rfl) Try.func8
    (ChangeSpec.witness6 (enc := enc) (C := Try.checked) false ⟨#[], #[.agg #[.int .i64 0, .int .i64 0, .int .i64 0, .int .i64 0, .int .i64 0, .string .empty, .string .empty], .agg #[.int .i64 0, .int .i64 0, .int .i64 0, .int .i64 0, .int .i64 0, .string .empty, .string .empty]], []⟩ 8 (by kernel_rfl) (by kernel_rfl) (by kernel_rfl) (by kernel_rfl)) ?_
  intro W base args ds gs before hval0 hW _ hsz0 _
  have hsz : (DataW.weightsEach Try.prog (Try.f8.params.toList ++ Rows.pageOnceSpec.plain.varTypes Try.prog) (ds ++ gs)).all (· ≤ reachBytes) = true := hsz0
  have hval : ∀ (j : Nat) t v, Try.f8.params[j]? = some t → args[j]? = some v → Value.okWide Try.prog W .any base t v := hval0
  have hW' := hW
  obtain ⟨p, q, hA0, hV, rfl, _, _⟩ := hW
  have hA : DataW.TrodAll enc Try.prog W 0 (fun _ => true) true Try.f8.params.toList args.toList ds p := hA0
  rw [Try.params8] at hA hval hsz
  obtain ⟨v0, vs0, d0, ds0, p0, q0, hargs, rfl, rfl, h0, r0⟩ := trodAll_cons hA
  obtain ⟨v1, vs1, d1, ds1, p1, q1, rfl, rfl, rfl, h1, r1⟩ := trodAll_cons r0
  obtain ⟨rfl, rfl, rfl⟩ := trodAll_nil r1
  obtain rfl : args = #[v0, v1] := by cases args; simp_all
  obtain ⟨rfl, rfl⟩ := trodVars_none hV
  have k0 := h0
  have lt0 : ∀ x ∈ p0, x.block < W.heap.size := by obtain ⟨m, hm⟩ := k0; exact DataW.trod_lt m _ _ _ hm
  obtain ⟨aD0, aC0, aV0, aA0, aO0, aK0, aS0, rfl, wD0, wC0⟩ := open_act (hval 0 60 v0 rfl rfl) h0
  have k1 := h1
  have lt1 : ∀ x ∈ p1, x.block < W.heap.size := by obtain ⟨m, hm⟩ := k1; exact DataW.trod_lt m _ _ _ hm
  obtain ⟨aD1, aC1, aV1, aA1, aO1, aK1, aS1, rfl, wD1, wC1⟩ := open_act (hval 1 60 v1 rfl rfl) h1
  clear hA0 hval0
  simp only [List.append_nil] at hW'
  refine (walk aD0 aC0 aV0 aA0 aO0 aK0 aS0 aD1 aC1 aV1 aA1 aO1 aK1 aS1 wD0 wC0 wD1 wC1 W ).mono fun e W' ⟨he, bel⟩ => ?_
  subst he
  exact ⟨_, rfl, _, _, _, [], _, [], hW', trodAll_mk1 (shut_bool Try.underlying4 _), (trodAll_cons_mk (Below.trod laidOut (by kernel_rfl) (of_decide_eq_true (by kernel_rfl)) k0 bel lt0) (trodAll_cons_mk (Below.trod laidOut (by kernel_rfl) (of_decide_eq_true (by kernel_rfl)) k1 bel lt1) trodAll_mk0)), rfl, bel.frame _, fun h => by cases h⟩

theorem proved : Rows.PageOnceSaid :=
  OpenClaim.holds_of_wide 8 Try.f8 rfl rfl rfl rfl rfl rfl rfl ⟨rfl, rfl, rfl, rfl, rfl⟩ rfl rfl rfl rfl rfl (by kernel_rfl) Try.func8 (by kernel_rfl)
    (of_decide_eq_true (by kernel_rfl)) (by unfold Func.isWrapper; first | (rw [if_pos (by decide +kernel)]; kernel_rfl) | (rw [if_neg (by decide +kernel)]; exact ⟨rfl, rfl⟩))
    (fun os started H enc _ => lifted os started H enc)

#print axioms proved
end Go.Proofs.Ytcijjblcoelabaa.pageOnce
