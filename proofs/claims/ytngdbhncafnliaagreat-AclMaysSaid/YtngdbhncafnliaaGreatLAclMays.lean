/-
  AclMays is proved: whether anybody may do anything with any entry, by any rules. No condition.
-/
import Derived.Test.YtngdbhncafnliaaGreatRows
import Derived.ProofKit
import Derived.OpenShut
import Derived.ShutString
import Derived.SizedLaws
import Derived.Test.YtngdbhncafnliaaGreatPk50
namespace Go.Proofs.YtngdbhncafnliaaGreat.aclMays
open Go.ChangeShapes Go.WideShapes Go.ChangeAt Go.RowKit
open Go.ChangeMaps (open_string shut_string)
set_option linter.unusedVariables false

set_option maxRecDepth 100000 in
set_option maxHeartbeats 4000000 in
theorem walk (v1 v2 v3 v4 : Value) (c : Mt.Ca) (w : World) (h : IsCa w v1 v2 v3 v4 c) : Calls Tryz.prog 4 #[caV v1 v2 v3 v4 c] w fun e w' => e = .returned (.bool true) ∧ Below w.heap.size w w' := by
  have HA := Lib.hid (fun u => awake22_any u)
  have HCO := Lib.hid (fun u => rcore13_any u)
  have HSM := Lib.hid (fun (u : World) (hu : Below w.heap.size w u) => small22_any (h.below hu))
  have HNW := Lib.hid (fun (u : World) (hu : Below w.heap.size w u) (tv cv : Value) (hs : IsSc u tv cv Mt.core) => new22_any hs (h.admin.below hu) (h.rules.below hu) h.rfit h.rlen)
  have hw32 : c.who.length ≤ 140737488355327 := by have := h.fwho.1; omega
  have he32 : c.entry.length ≤ 140737488355327 := by have := h.fentry.1; omega
  have HMY : Hid (∀ cs, Mt.newA Mt.core c.admin c.rules = .ok cs → ∀ (u : World) (bv : Value), Below w.heap.size w u → IsBk u bv cs → Calls Tryz.prog 13 #[bv, v2, v3, .string (Mt.str c.att), .int .i64 c.right] u fun e w' => e = .returned (.bool (Mt.rmayA c.admin c.rules c.who c.entry c.att c.right)) ∧ Below u.heap.size u w') := Lib.hid (fun cs hn u bv hu hb => by
    rw [← Mt.may_eq hn]; exact may22_any c.right hb (h.who.below hu) (h.entry.below hu) hw32 he32 c.att h.alen)
  have HMD : Hid (∀ cs, Mt.newA Mt.core c.admin c.rules = .ok cs → ∀ (u : World), Below w.heap.size w u → Calls Tryz.prog 14 #[v1, v4, v2, v3, .string (Mt.str c.att), .int .i64 c.right] u fun e w' => e = .returned (.bool (Mt.rmayA c.admin c.rules c.who c.entry c.att c.right)) ∧ Below u.heap.size u w') := Lib.hid (fun cs hn u hu =>
    rmay22_any c.att (h.admin.below hu) (h.rules.below hu) (h.who.below hu) (h.entry.below hu) (Mt.fitD_T h.fadmin) (Mt.fitD_T h.fwho) (Mt.fitD_T h.fentry) (Mt.new_sound hn h.rfit) h.alen (by have := h.rlen; omega))
  obtain ⟨RR, hRR⟩ : ∃ R, Mt.newA Mt.core c.admin c.rules = R := ⟨_, rfl⟩
  obtain ⟨Z, hZ⟩ : ∃ z, Mt.rmayA c.admin c.rules c.who c.entry c.att c.right = z := ⟨_, rfl⟩
  rw [hRR] at HNW HMY HMD
  simp only [hZ] at HMY HMD
  have HERR : Hid (∀ e, RR = .error e → 0 < e) := Lib.hid (fun e he => Mt.new_err (hRR.trans he))
  have hcv : caV v1 v2 v3 v4 c = .agg #[v1, v2, v3, v4, .string (Mt.str c.att), .int .i64 c.right] := rfl
  rw [hcv] at HSM ⊢
  obtain ⟨a1, c1, rfl, -⟩ := h.admin
  obtain ⟨a2, c2, rfl, -⟩ := h.who
  obtain ⟨a3, c3, rfl, -⟩ := h.entry
  obtain ⟨ra, rc, rfl, -, -⟩ := h.rules
  generalize c.admin.length = n1 at *
  generalize c.who.length = n2 at *
  generalize c.entry.length = n3 at *
  generalize c.rules.length = m at *
  generalize Mt.str c.att = AB at *
  generalize c.right = ri at *
  obtain ⟨w1, hw1⟩ : ∃ u, w.alloc (.cells #[.slice a1 n1 c1, .slice a2 n2 c2, .slice a3 n3 c3, .slice ra m rc, .string AB, .int .i64 ri] 26) = u := ⟨_, rfl⟩
  have hA1 : Below w.heap.size w w1 := by rw [← hw1]; exact (Below.refl _ w).alloc (Nat.le_refl _) _
  have hx1 : w1.heap[w.heap.size]? = some (.cells #[.slice a1 n1 c1, .slice a2 n2 c2, .slice a3 n3 c3, .slice ra m rc, .string AB, .int .i64 ri] 26) := by rw [← hw1]; exact heap_alloc_new w _
  have HU : Hid (∀ u, Below w1.heap.size w1 u → u.heap[w.heap.size]? = some (.cells #[.slice a1 n1 c1, .slice a2 n2 c2, .slice a3 n3 c3, .slice ra m rc, .string AB, .int .i64 ri] 26) ∧ Below w.heap.size w u) := Lib.hid (fun u hu => ⟨(hu.block _ (lt_of_block hx1)).trans hx1, hA1.trans (hu.mono hA1.size)⟩)
  have HQ : Hid (∀ u, Below w1.heap.size w1 u → u.cell? ⟨w.heap.size, 0, none⟩ = some (.slice a1 n1 c1) ∧ u.cell? ⟨w.heap.size, 1, none⟩ = some (.slice a2 n2 c2) ∧ u.cell? ⟨w.heap.size, 2, none⟩ = some (.slice a3 n3 c3) ∧ u.cell? ⟨w.heap.size, 3, none⟩ = some (.slice ra m rc) ∧ u.cell? ⟨w.heap.size, 4, none⟩ = some (.string AB) ∧ u.cell? ⟨w.heap.size, 5, none⟩ = some (.int .i64 ri)) := Lib.hid (fun u hu => box6_of (HU.out u hu).1)
  have HW1 : Hid (Below w1.heap.size w1 w1.drew) := Lib.hid (Below.refl _ w1).drew
  clear h hA1 hx1 hRR hZ hcv hw32 he32
  go_enter Tryz.func4, Tryz.ntmps4
  go_upto_region 1 with fail
  go_region_held3 (fun w' => w'.cell? ⟨w.heap.size, 0, none⟩ = some (.slice a1 n1 c1) ∧ w'.cell? ⟨w.heap.size, 1, none⟩ = some (.slice a2 n2 c2) ∧ w'.cell? ⟨w.heap.size, 2, none⟩ = some (.slice a3 n3 c3) ∧ w'.cell? ⟨w.heap.size, 3, none⟩ = some (.slice ra m rc) ∧ w'.cell? ⟨w.heap.size, 4, none⟩ = some (.string AB) ∧ w'.cell? ⟨w.heap.size, 5, none⟩ = some (.int .i64 ri))
    (first
      | with_reducible exact HQ.out _ HW1.out
      | with_reducible exact HQ.out _ HW3.out
      | with_reducible exact HQ.out _ HW4.out
      | go_keep)
    (first
      | (go_at_call 11; (with_reducible refine (HCO.out _).mono ?_); rintro e w3 ⟨tv, cv, rfl, hsc, hb⟩; have HW3 := Lib.hid (HW1.out.trans (hb.mono HW1.out.size)); have HSC3 := Lib.hid hsc; have hfm : (∃ ta tn tc, tv = .slice ta tn tc) ∧ (∃ ca cn cc, cv = .slice ca cn cc) := ⟨by obtain ⟨x, y, e, -, -⟩ := hsc.types; exact ⟨_, _, _, e⟩, by obtain ⟨x, y, e, -, -⟩ := hsc.classes; exact ⟨_, _, _, e⟩⟩; obtain ⟨⟨ta, tn, tc, rfl⟩, ⟨ca, cn, cc, rfl⟩⟩ := hfm; clear hb hsc)
      | (go_at_call 10; (with_reducible refine (HNW.out _ (HU.out _ HW3.out).2 _ _ HSC3.out).mono ?_); rintro e w4 ⟨hnp, hb⟩; have HW4 := Lib.hid (HW3.out.trans (hb.mono HW3.out.size)); obtain ⟨NB, EE, rfl, hen⟩ : ∃ NB EE, e = .returned (.tuple #[NB, .int .i64 EE]) ∧ ((∃ x : Nat, RR = .error x ∧ EE = x ∧ NB = .pointer none) ∨ (∃ cs p, RR = .ok cs ∧ EE = 0 ∧ NB = .pointer (some ⟨p, 0, none⟩) ∧ IsBk w4 (.pointer (some ⟨p, 0, none⟩)) cs)) := (by
          rcases hnp.two with ⟨x, h1, h2⟩ | ⟨cs, p, h1, h2, h3⟩
          · exact ⟨_, _, h2, .inl ⟨x, h1, rfl, rfl⟩⟩
          · exact ⟨_, _, h2, .inr ⟨cs, p, h1, rfl, rfl, h3⟩⟩); have HEN := Lib.hid hen; clear hnp hb hen))
  all_goals
    go_upto_region 2 with fail
    obtain ⟨q0, q1, q2, q3, q4, q5⟩ := HQ.out _ HW4.out
    have HC4 := Lib.hid (HSM.out _ (HU.out _ HW4.out).2)
    rcases HEN.out with ⟨x, hr, rfl, rfl⟩ | ⟨cs, p, hr, rfl, rfl, hbk⟩
    · have hx0 := HERR.out x hr
      have k1 : ((x : Int) != 0) = true := by simp; omega
      have k2 : ¬ x = 0 := by omega
      clear HEN hr hx0
      go_wp2_with fail
      refine (HC4.out).mono ?_
      rintro e w5 ⟨⟨bb, rfl⟩, hb⟩
      have HW5 := Lib.hid (HW4.out.trans (hb.mono HW4.out.size))
      clear hb q0 q1 q2 q3 q4 q5
      cases bb
      all_goals
        go_wp2_with fail
        refine (HA.out _).mono ?_
        rintro e w6 ⟨rfl, hb⟩
        have HB6 := Lib.hid (HU.out _ (HW5.out.trans (hb.mono HW5.out.size))).2
        clear hb
        go_wp2_with fail
        all_goals (go_ret; exact ⟨rfl, HB6.out⟩)
    · have HRR := Lib.hid hr
      have HBK := Lib.hid hbk
      clear HEN hr hbk
      go_wp2_with fail
      refine (HC4.out).mono ?_
      rintro e w5 ⟨⟨bb, rfl⟩, hb⟩
      have HW5 := Lib.hid (HW4.out.trans (hb.mono HW4.out.size))
      have HBK5 := Lib.hid (HBK.out.below hb)
      clear hb q0 q1 q2 q3 q4 q5
      cases bb with
      | false =>
        go_wp2_with fail
        refine (HA.out _).mono ?_
        rintro e w6 ⟨rfl, hb⟩
        have HB6 := Lib.hid (HU.out _ (HW5.out.trans (hb.mono HW5.out.size))).2
        clear hb
        go_wp2_with fail
        all_goals (go_ret; exact ⟨rfl, HB6.out⟩)
      | true =>
      have HW5d := Lib.hid (show Below w1.heap.size w1 w5.drew from HW5.out.drew)
      have HBK5d := Lib.hid (HBK5.out.below (show Below w5.heap.size w5 w5.drew from (Below.refl _ w5).drew))
      go_upto_region 4 with fail
      go_region_held3 (fun w' => w'.cell? ⟨w.heap.size, 0, none⟩ = some (.slice a1 n1 c1) ∧ w'.cell? ⟨w.heap.size, 1, none⟩ = some (.slice a2 n2 c2) ∧ w'.cell? ⟨w.heap.size, 2, none⟩ = some (.slice a3 n3 c3) ∧ w'.cell? ⟨w.heap.size, 3, none⟩ = some (.slice ra m rc) ∧ w'.cell? ⟨w.heap.size, 4, none⟩ = some (.string AB) ∧ w'.cell? ⟨w.heap.size, 5, none⟩ = some (.int .i64 ri))
        (first
          | with_reducible exact HQ.out _ HW5d.out
          | with_reducible exact HQ.out _ HW6.out
          | with_reducible exact HQ.out _ HW7.out
          | with_reducible exact HQ.out _ HW8.out
          | go_keep)
        (first
          | (go_at_call 9; (with_reducible refine (HA.out _).mono ?_); rintro e w6 ⟨rfl, hb⟩; have HW6 := Lib.hid (HW5d.out.trans (hb.mono HW5d.out.size)); have HBK6 := Lib.hid (HBK5d.out.below hb); clear hb)
          | (go_at_call 13; (with_reducible refine (HMY.out _ HRR.out _ _ (HU.out _ HW6.out).2 HBK6.out).mono ?_); rintro e w7 ⟨rfl, hb⟩; have HW7 := Lib.hid (HW6.out.trans (hb.mono HW6.out.size)); clear hb)
          | (go_at_call 14; (with_reducible refine (HMD.out _ HRR.out _ (HU.out _ HW7.out).2).mono ?_); rintro e w8 ⟨rfl, hb⟩; have HW8 := Lib.hid (HW7.out.trans (hb.mono HW7.out.size)); clear hb)
          | (go_at_call 14; (with_reducible refine (HMD.out _ HRR.out _ (HU.out _ HW6.out).2).mono ?_); rintro e w7 ⟨rfl, hb⟩; have HW7 := Lib.hid (HW6.out.trans (hb.mono HW6.out.size)); have HBK7 := Lib.hid (HBK6.out.below hb); clear hb)
          | (go_at_call 13; (with_reducible refine (HMY.out _ HRR.out _ _ (HU.out _ HW7.out).2 HBK7.out).mono ?_); rintro e w8 ⟨rfl, hb⟩; have HW8 := Lib.hid (HW7.out.trans (hb.mono HW7.out.size)); clear hb))
      all_goals
        have HB8 := Lib.hid (HU.out _ HW8.out).2
        go_wp2_with fail
        all_goals (go_ret; exact ⟨by first | rfl | simp, HB8.out⟩)

/-! The step from the walk to the row. -/
theorem own : ownKnob Tryz.prog.godebug = none := by kernel_rfl
theorem laidOut : laidOutB Tryz.prog = true := by kernel_rfl

set_option maxRecDepth 100000 in
theorem lifted (os : Os) (started : os.Started) (H : Type) (enc : TypeId × Value → H) :
    ReturnsInHanded {} Tryz.checked os 4 .any (Rows.aclMaysSpec.pre6 enc Tryz.prog Tryz.f4 Rows.aclMaysRow.domain false) (Rows.aclMaysSpec.post enc Tryz.prog Tryz.f4 false true false false) := by
  refine returnsInHanded_of_change_sized (C := Tryz.checked) own started (by kernel_rfl) Tryz.func4
    (ChangeSpec.witness6 (enc := enc) (C := Tryz.checked) false ⟨#[], #[.agg #[.slice none 0 0, .slice none 0 0, .slice none 0 0, .slice none 0 0, .string .empty, .int .i64 0]], []⟩ 8 (by kernel_rfl) (by kernel_rfl) (by kernel_rfl) (by kernel_rfl)) ?_
  intro W base args ds gs before hval0 hW _ hsz0 _
  have hsz : (DataW.weightsEach Tryz.prog (Tryz.f4.params.toList ++ Rows.aclMaysSpec.plain.varTypes Tryz.prog) (ds ++ gs)).all (· ≤ reachBytes) = true := hsz0
  have hval : ∀ (j : Nat) t v, Tryz.f4.params[j]? = some t → args[j]? = some v → Value.okWide Tryz.prog W .any base t v := hval0
  have hW' := hW
  obtain ⟨p, q, hA0, hV, rfl, _, _⟩ := hW
  have hA : DataW.TrodAll enc Tryz.prog W 0 (fun _ => true) true Tryz.f4.params.toList args.toList ds p := hA0
  rw [Tryz.params4] at hA hval hsz
  obtain ⟨v0, vs0, d0, ds0, p0, q0, hargs, rfl, rfl, h0, r0⟩ := trodAll_cons hA
  obtain ⟨rfl, rfl, rfl⟩ := trodAll_nil r0
  obtain rfl : args = #[v0] := by cases args; simp_all
  obtain ⟨rfl, rfl⟩ := trodVars_none hV
  have k0 := h0
  have lt0 : ∀ x ∈ p0, x.block < W.heap.size := by obtain ⟨m, hm⟩ := k0; exact DataW.trod_lt m _ _ _ hm
  obtain ⟨va0, vb0, vc0, vd0, c0, rfl, w0⟩ := open_case (j := 0) (hval 0 26 v0 rfl rfl) h0 rfl rfl hsz
  clear hA0 hval0
  simp only [List.append_nil] at hW'
  refine (walk va0 vb0 vc0 vd0 c0  W w0).mono fun e W' ⟨he, bel⟩ => ?_
  subst he
  exact ⟨_, rfl, _, _, _, [], _, [], hW', trodAll_mk1 (shut_bool Tryz.underlying4 _), (trodAll_cons_mk (Below.trod laidOut (by kernel_rfl) (of_decide_eq_true (by kernel_rfl)) k0 bel lt0) trodAll_mk0), rfl, bel.frame _, fun h => by cases h⟩

theorem proved : Rows.AclMaysSaid :=
  OpenClaim.holds_of_wide 4 Tryz.f4 rfl rfl rfl rfl rfl rfl rfl ⟨rfl, rfl, rfl, rfl, rfl⟩ rfl rfl rfl rfl rfl (by kernel_rfl) Tryz.func4 (by kernel_rfl)
    (of_decide_eq_true (by kernel_rfl)) (by unfold Func.isWrapper; first | (rw [if_pos (by decide +kernel)]; kernel_rfl) | (rw [if_neg (by decide +kernel)]; exact ⟨rfl, rfl⟩))
    (fun os started H enc _ => lifted os started H enc)

#print axioms proved
end Go.Proofs.YtngdbhncafnliaaGreat.aclMays
