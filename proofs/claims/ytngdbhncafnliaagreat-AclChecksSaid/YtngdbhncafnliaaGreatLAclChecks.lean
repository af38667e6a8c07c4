/-
  AclChecks is proved: whether any rules may be, or what is wrong first. No condition.
-/
import Derived.Test.YtngdbhncafnliaaGreatRows
import Derived.ProofKit
import Derived.OpenShut
import Derived.ShutString
import Derived.SizedLaws
import Derived.Test.YtngdbhncafnliaaGreatPk50
namespace Go.Proofs.YtngdbhncafnliaaGreat.aclChecks
open Go.ChangeShapes Go.WideShapes Go.ChangeAt Go.RowKit
open Go.ChangeMaps (open_string shut_string)
set_option linter.unusedVariables false

set_option maxRecDepth 100000 in
set_option maxHeartbeats 4000000 in
theorem walk (v1 v2 v3 v4 : Value) (c : Mt.Ca) (w : World) (h : IsCa w v1 v2 v3 v4 c) : Calls Tryz.prog 3 #[caV v1 v2 v3 v4 c] w fun e w' => e = .returned (.bool true) ∧ Below w.heap.size w w' := by
  have HA := Lib.hid (fun u => awake22_any u)
  have HCO := Lib.hid (fun u => rcore13_any u)
  have HSM := Lib.hid (fun (u : World) (hu : Below w.heap.size w u) => small22_any (w := u) (c := c) ⟨h.admin.below hu, h.who.below hu, h.entry.below hu, h.rules.below hu, h.fadmin, h.fwho, h.fentry, h.rlen, h.rfit, h.alen⟩)
  have HNW := Lib.hid (fun (u : World) (hu : Below w.heap.size w u) (tv cv : Value) (hs : IsSc u tv cv Mt.core) => new22_any hs (h.admin.below hu) (h.rules.below hu) h.rfit h.rlen)
  have HCK := Lib.hid (fun (u : World) (hu : Below w.heap.size w u) (tv cv : Value) (hs : IsSc u tv cv Mt.core) => rcheck22_any hs (h.admin.below hu) (h.rules.below hu) (fun r hr a ha => ((h.fadmin.2 r hr).2 a ha).1) h.rfit (by have := h.rlen; omega))
  have HEQ := Lib.hid (Mt.new_chk Mt.core c.admin c.rules)
  obtain ⟨RR, hRR⟩ : ∃ R, Mt.newA Mt.core c.admin c.rules = R := ⟨_, rfl⟩
  obtain ⟨K, hK⟩ : ∃ R, Mt.rchkA Mt.core c.admin c.rules = R := ⟨_, rfl⟩
  rw [hRR] at HNW HEQ
  rw [hK] at HCK HEQ
  have HERR : Hid (∀ e, RR = .error e → 0 < e) := Lib.hid (fun e he => Mt.new_err (hRR.trans he))
  have hcv : caV v1 v2 v3 v4 c = .agg #[v1, v2, v3, v4, .string (Mt.str c.att), .int .i64 c.right] := rfl
  rw [hcv] at HSM ⊢
  obtain ⟨a1, c1, rfl, -⟩ := h.admin
  obtain ⟨a2, c2, rfl, -⟩ := h.who
  obtain ⟨a3, c3, rfl, -⟩ := h.entry
  obtain ⟨ra, rc, rfl, -, -⟩ := h.rules
  generalize c.admin.length = n1 at *
  generalize c.who.length = n2 at *
  generalize c.entry.length = n3 at *
  generalize c.rules.length = m at *
  generalize Mt.str c.att = AB at *
  generalize c.right = ri at *
  obtain ⟨w1, hw1⟩ : ∃ u, w.alloc (.cells #[.slice a1 n1 c1, .slice a2 n2 c2, .slice a3 n3 c3, .slice ra m rc, .string AB, .int .i64 ri] 26) = u := ⟨_, rfl⟩
  have hA1 : Below w.heap.size w w1 := by rw [← hw1]; exact (Below.refl _ w).alloc (Nat.le_refl _) _
  have hx1 : w1.heap[w.heap.size]? = some (.cells #[.slice a1 n1 c1, .slice a2 n2 c2, .slice a3 n3 c3, .slice ra m rc, .string AB, .int .i64 ri] 26) := by rw [← hw1]; exact heap_alloc_new w _
  have HU : Hid (∀ u, Below w1.heap.size w1 u → u.heap[w.heap.size]? = some (.cells #[.slice a1 n1 c1, .slice a2 n2 c2, .slice a3 n3 c3, .slice ra m rc, .string AB, .int .i64 ri] 26) ∧ Below w.heap.size w u) := Lib.hid (fun u hu => ⟨(hu.block _ (lt_of_block hx1)).trans hx1, hA1.trans (hu.mono hA1.size)⟩)
  obtain ⟨q0, q1, q2, q3, q4, q5⟩ := box6_of hx1
  have HC1 := Lib.hid (HSM.out w1 hA1)
  clear h hA1 hx1 hRR hK hcv
  go_enter Tryz.func3, Tryz.ntmps3
  go_wp2_with fail
  refine (HC1.out).mono ?_
  rintro e w2 ⟨⟨bb, rfl⟩, hb⟩
  have HW2 : Hid (Below w1.heap.size w1 w2) := Lib.hid hb
  have HB2 := Lib.hid (HU.out _ HW2.out).2
  clear hb q0 q1 q2 q3 q4 q5
  cases bb with
  | false =>
    go_wp2_with fail
    refine (HA.out _).mono ?_
    rintro e w3 ⟨rfl, hb⟩
    have HB3 := Lib.hid (HB2.out.trans (hb.mono HB2.out.size))
    clear hb
    go_wp2_with fail
    all_goals (go_ret; exact ⟨rfl, HB3.out⟩)
  | true =>
  have HQ : Hid (∀ u, Below w1.heap.size w1 u → u.cell? ⟨w.heap.size, 0, none⟩ = some (.slice a1 n1 c1) ∧ u.cell? ⟨w.heap.size, 3, none⟩ = some (.slice ra m rc)) := Lib.hid (fun u hu => by
    obtain ⟨g0, -, -, g3, -, -⟩ := box6_of (HU.out u hu).1
    exact ⟨g0, g3⟩)
  have HW2d := Lib.hid (show Below w1.heap.size w1 w2.drew from HW2.out.drew)
  go_upto_region 3 with fail
  go_region_held3 (fun w' => w'.cell? ⟨w.heap.size, 0, none⟩ = some (.slice a1 n1 c1) ∧ w'.cell? ⟨w.heap.size, 3, none⟩ = some (.slice ra m rc))
    (first
      | with_reducible exact HQ.out _ HW2d.out
      | with_reducible exact HQ.out _ HW3.out
      | with_reducible exact HQ.out _ HW4.out
      | go_keep)
    (first
      | (go_at_call 11; (with_reducible refine (HCO.out _).mono ?_); rintro e w3 ⟨tv, cv, rfl, hsc, hb⟩; have HW3 := Lib.hid (HW2d.out.trans (hb.mono HW2d.out.size)); have HSC3 := Lib.hid hsc; have hfm : (∃ ta tn tc, tv = .slice ta tn tc) ∧ (∃ ca cn cc, cv = .slice ca cn cc) := ⟨by obtain ⟨x, y, e, -, -⟩ := hsc.types; exact ⟨_, _, _, e⟩, by obtain ⟨x, y, e, -, -⟩ := hsc.classes; exact ⟨_, _, _, e⟩⟩; obtain ⟨⟨ta, tn, tc, rfl⟩, ⟨ca, cn, cc, rfl⟩⟩ := hfm; clear hb hsc)
      | (go_at_call 10; (with_reducible refine (HNW.out _ (HU.out _ HW3.out).2 _ _ HSC3.out).mono ?_); rintro e w4 ⟨hnp, hb⟩; have HW4 := Lib.hid (HW3.out.trans (hb.mono HW3.out.size)); have HNP := Lib.hid hnp; obtain ⟨NB, EE, rfl, hen⟩ : ∃ NB EE, e = .returned (.tuple #[NB, .int .i64 EE]) ∧ ((∃ x : Nat, 0 < x ∧ x = K ∧ EE = x ∧ NB = .pointer none) ∨ (K = 0 ∧ EE = 0 ∧ ∃ p, NB = .pointer (some p))) := (by
          unfold NewP at hnp
          have heq := HEQ.out
          have her := HERR.out
          cases RR with
          | error x => exact ⟨_, _, hnp, .inl ⟨x, her x rfl, heq, rfl, rfl⟩⟩
          | ok l =>
            obtain ⟨bv, h1, p, cv2, h2, -, -, -⟩ := hnp
            exact ⟨_, _, h1, .inr ⟨heq.symm, rfl, _, h2⟩⟩); have HEN := Lib.hid hen; clear hnp hb hen HNP))
  all_goals
    have HW4d := Lib.hid (show Below w1.heap.size w1 w4.drew from HW4.out.drew)
    go_upto_region 4 with fail
    rcases HEN.out with ⟨x, hx0, rfl, rfl, rfl⟩ | ⟨rfl, rfl, p, rfl⟩
    · have k1 : ((x : Int) == 0) = false := by simp; omega
      have k2 : ¬ x = 0 := by omega
      clear HEN
      go_region_held3 (fun w' => w'.cell? ⟨w.heap.size, 0, none⟩ = some (.slice a1 n1 c1) ∧ w'.cell? ⟨w.heap.size, 3, none⟩ = some (.slice ra m rc))
        (first
          | with_reducible exact HQ.out _ HW4d.out
          | with_reducible exact HQ.out _ HW5.out
          | with_reducible exact HQ.out _ HW6.out
          | with_reducible exact HQ.out _ HW7.out
          | go_keep)
        (first
          | (go_at_call 9; (with_reducible refine (HA.out _).mono ?_); rintro e w5 ⟨rfl, hb⟩; have HW5 := Lib.hid (HW4d.out.trans (hb.mono HW4d.out.size)); clear hb)
          | (go_at_call 11; (with_reducible refine (HCO.out _).mono ?_); rintro e w6 ⟨tv, cv, rfl, hsc, hb⟩; have HW6 := Lib.hid (HW5.out.trans (hb.mono HW5.out.size)); have HSC6 := Lib.hid hsc; have hfm : (∃ ta tn tc, tv = .slice ta tn tc) ∧ (∃ ca cn cc, cv = .slice ca cn cc) := ⟨by obtain ⟨x, y, e, -, -⟩ := hsc.types; exact ⟨_, _, _, e⟩, by obtain ⟨x, y, e, -, -⟩ := hsc.classes; exact ⟨_, _, _, e⟩⟩; obtain ⟨⟨ta, tn, tc, rfl⟩, ⟨ca, cn, cc, rfl⟩⟩ := hfm; clear hb hsc)
          | (go_at_call 12; (with_reducible refine (HCK.out _ (HU.out _ HW6.out).2 _ _ HSC6.out).mono ?_); rintro e w7 ⟨rfl, hb⟩; have HW7 := Lib.hid (HW6.out.trans (hb.mono HW6.out.size)); clear hb))
      all_goals
        have HB7 := Lib.hid (HU.out _ HW7.out).2
        go_wp2_with fail
        all_goals (go_ret; exact ⟨by first | rfl | simp, HB7.out⟩)
    · clear HEN
      go_region_held3 (fun w' => w'.cell? ⟨w.heap.size, 0, none⟩ = some (.slice a1 n1 c1) ∧ w'.cell? ⟨w.heap.size, 3, none⟩ = some (.slice ra m rc))
        (first
          | with_reducible exact HQ.out _ HW4d.out
          | with_reducible exact HQ.out _ HW5.out
          | with_reducible exact HQ.out _ HW6.out
          | with_reducible exact HQ.out _ HW7.out
          | go_keep)
        (first
          | (go_at_call 9; (with_reducible refine (HA.out _).mono ?_); rintro e w5 ⟨rfl, hb⟩; have HW5 := Lib.hid (HW4d.out.trans (hb.mono HW4d.out.size)); clear hb)
          | (go_at_call 11; (with_reducible refine (HCO.out _).mono ?_); rintro e w6 ⟨tv, cv, rfl, hsc, hb⟩; have HW6 := Lib.hid (HW5.out.trans (hb.mono HW5.out.size)); have HSC6 := Lib.hid hsc; have hfm : (∃ ta tn tc, tv = .slice ta tn tc) ∧ (∃ ca cn cc, cv = .slice ca cn cc) := ⟨by obtain ⟨x, y, e, -, -⟩ := hsc.types; exact ⟨_, _, _, e⟩, by obtain ⟨x, y, e, -, -⟩ := hsc.classes; exact ⟨_, _, _, e⟩⟩; obtain ⟨⟨ta, tn, tc, rfl⟩, ⟨ca, cn, cc, rfl⟩⟩ := hfm; clear hb hsc)
          | (go_at_call 12; (with_reducible refine (HCK.out _ (HU.out _ HW6.out).2 _ _ HSC6.out).mono ?_); rintro e w7 ⟨rfl, hb⟩; have HW7 := Lib.hid (HW6.out.trans (hb.mono HW6.out.size)); clear hb))
      all_goals
        have HB7 := Lib.hid (HU.out _ HW7.out).2
        go_wp2_with fail
        all_goals (go_ret; exact ⟨by first | rfl | simp, HB7.out⟩)

/-! The step from the walk to the row. -/
theorem own : ownKnob Tryz.prog.godebug = none := by kernel_rfl
theorem laidOut : laidOutB Tryz.prog = true := by kernel_rfl

set_option maxRecDepth 100000 in
theorem lifted (os : Os) (started : os.Started) (H : Type) (enc : TypeId × Value → H) :
    ReturnsInHanded {} Tryz.checked os 3 .any (Rows.aclChecksSpec.pre6 enc Tryz.prog Tryz.f3 Rows.aclChecksRow.domain false) (Rows.aclChecksSpec.post enc Tryz.prog Tryz.f3 false true false false) := by
  refine returnsInHanded_of_change_sized (C := Tryz.checked) own started (by kernel_rfl) Tryz.func3
    (ChangeSpec.witness6 (enc := enc) (C := Tryz.checked) false ⟨#[], #[.agg #[.slice none 0 0, .slice none 0 0, .slice none 0 0, .slice none 0 0, .string .empty, .int .i64 0]], []⟩ 8 (by kernel_rfl) (by kernel_rfl) (by kernel_rfl) (by kernel_rfl)) ?_
  intro W base args ds gs before hval0 hW _ hsz0 _
  have hsz : (DataW.weightsEach Tryz.prog (Tryz.f3.params.toList ++ Rows.aclChecksSpec.plain.varTypes Tryz.prog) (ds ++ gs)).all (· ≤ reachBytes) = true := hsz0
  have hval : ∀ (j : Nat) t v, Tryz.f3.params[j]? = some t → args[j]? = some v → Value.okWide Tryz.prog W .any base t v := hval0
  have hW' := hW
  obtain ⟨p, q, hA0, hV, rfl, _, _⟩ := hW
  have hA : DataW.TrodAll enc Tryz.prog W 0 (fun _ => true) true Tryz.f3.params.toList args.toList ds p := hA0
  rw [Tryz.params3] at hA hval hsz
  obtain ⟨v0, vs0, d0, ds0, p0, q0, hargs, rfl, rfl, h0, r0⟩ := trodAll_cons hA
  obtain ⟨rfl, rfl, rfl⟩ := trodAll_nil r0
  obtain rfl : args = #[v0] := by cases args; simp_all
  obtain ⟨rfl, rfl⟩ := trodVars_none hV
  have k0 := h0
  have lt0 : ∀ x ∈ p0, x.block < W.heap.size := by obtain ⟨m, hm⟩ := k0; exact DataW.trod_lt m _ _ _ hm
  obtain ⟨va0, vb0, vc0, vd0, c0, rfl, w0⟩ := open_case (j := 0) (hval 0 26 v0 rfl rfl) h0 rfl rfl hsz
  clear hA0 hval0
  simp only [List.append_nil] at hW'
  refine (walk va0 vb0 vc0 vd0 c0  W w0).mono fun e W' ⟨he, bel⟩ => ?_
  subst he
  exact ⟨_, rfl, _, _, _, [], _, [], hW', trodAll_mk1 (shut_bool Tryz.underlying4 _), (trodAll_cons_mk (Below.trod laidOut (by kernel_rfl) (of_decide_eq_true (by kernel_rfl)) k0 bel lt0) trodAll_mk0), rfl, bel.frame _, fun h => by cases h⟩

theorem proved : Rows.AclChecksSaid :=
  OpenClaim.holds_of_wide 3 Tryz.f3 rfl rfl rfl rfl rfl rfl rfl ⟨rfl, rfl, rfl, rfl, rfl⟩ rfl rfl rfl rfl rfl (by kernel_rfl) Tryz.func3 (by kernel_rfl)
    (of_decide_eq_true (by kernel_rfl)) (by unfold Func.isWrapper; first | (rw [if_pos (by decide +kernel)]; kernel_rfl) | (rw [if_neg (by decide +kernel)]; exact ⟨rfl, rfl⟩))
    (fun os started H enc _ => lifted os started H enc)

#print axioms proved
end Go.Proofs.YtngdbhncafnliaaGreat.aclChecks
