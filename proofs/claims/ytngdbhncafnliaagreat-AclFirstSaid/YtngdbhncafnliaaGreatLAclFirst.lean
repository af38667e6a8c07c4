/-
  AclFirst is proved: rules behind the first one that speaks of it make no difference; with one that speaks of everything ahead of all, it alone decides. No condition.
-/
import Derived.Test.YtngdbhncafnliaaGreatRows
import Derived.ProofKit
import Derived.OpenShut
import Derived.ShutString
import Derived.SizedLaws
import Derived.Test.YtngdbhncafnliaaGreatPk32
import Derived.Test.YtngdbhncafnliaaGreatPk51
namespace Go.Proofs.YtngdbhncafnliaaGreat.aclFirst
open Go.ChangeShapes Go.WideShapes Go.ChangeAt Go.RowKit
open Go.ChangeMaps (open_string shut_string)
set_option linter.unusedVariables false

set_option maxRecDepth 100000 in
set_option maxHeartbeats 8000000 in
theorem walk (v1 v2 v3 v4 : Value) (c : Mt.Ca) (at' : Int) (hat : (Lit.int .i64 at').wf = true) (w : World) (h : IsCa w v1 v2 v3 v4 c) : Calls Tryz.prog 6 #[caV v1 v2 v3 v4 c, .int .i64 at'] w fun e w' => e = .returned (.bool true) ∧ Below w.heap.size w w' := by
  have HA := Lib.hid (fun u => awake22_any u)
  have HCF := Lib.hid (fun u => rcore22_far u)
  have HSM := Lib.hid (fun (u : World) (hu : Below w.heap.size w u) => small22_any (h.below hu))
  have HNW := Lib.hid (fun (u : World) (hu : Below w.heap.size w u) (tv cv : Value) (hs : IsSc u tv cv Mt.core) => new22_any hs (h.admin.below hu) (h.rules.below hu) h.rfit h.rlen)
  have HNB : Hid (∀ cs, Mt.newA Mt.core c.admin c.rules = .ok cs → ∀ l : List Mt.Ru, (∀ r ∈ l, r ∈ c.rules ∨ r = Mt.denyR) → l.length * 72 ≤ 140737488355000 → ∀ (u : World) (tv cv rv : Value), Below w.heap.size w u → IsSc u tv cv Mt.core ∧ IsRus u rv l → Calls Tryz.prog 10 #[.agg #[tv, cv], v1, rv] u fun e w' => ∃ p, e = .returned (.tuple #[.pointer (some ⟨p, 0, none⟩), .int .i64 0]) ∧ IsB w' c.admin p l ∧ Below u.heap.size u w') :=
    Lib.hid (fun cs hn l hl hb u tv cv rv hu hs => newB_any hn h.rfit l hl hs.1 (h.admin.below hu) hs.2 hb)
  have HMB : Hid (∀ (l : List Mt.Ru) (u : World) (p : Nat), Below w.heap.size w u → IsB u c.admin p l → Calls Tryz.prog 13 #[.pointer (some ⟨p, 0, none⟩), v2, v3, .string (Mt.str c.att), .int .i64 c.right] u fun e w' => e = .returned (.bool (Mt.rmayA c.admin l c.who c.entry c.att c.right)) ∧ Below u.heap.size u w') :=
    Lib.hid (fun l u p hu hb => mayB_any hb (h.who.below hu) (h.entry.below hu) (by have := h.fwho.1; omega) (by have := h.fentry.1; omega) h.alen)
  have HRL := Lib.hid (fun (u : World) (hu : Below w.heap.size w u) => h.rules.below hu)
  have hm0 : c.rules.length ≤ 1954687338212 := by have := h.rlen; omega
  obtain ⟨K, hK, hKe⟩ := cutat22 c.rules.length at' (by omega)
  have HKE := Lib.hid hKe
  have HMD := Lib.hid (Mt.may_deny c.admin c.rules c.who c.entry c.att c.right)
  have HMH := Lib.hid (Mt.may_behind c.admin (c.rules.take K) c.who c.entry c.att c.right)
  have HMM := Lib.hid (Mt.may_more c.admin c.rules K c.who c.entry c.att c.right)
  obtain ⟨RR, hRR⟩ : ∃ R, Mt.newA Mt.core c.admin c.rules = R := ⟨_, rfl⟩
  rw [hRR] at HNW HNB
  have HERR : Hid (∀ e, RR = .error e → 0 < e) := Lib.hid (fun e he => Mt.new_err (hRR.trans he))
  have HOK : Hid (∀ cs, RR = .ok cs → Mt.newA Mt.core c.admin c.rules = .ok cs) := Lib.hid (fun cs he => hRR.trans he)
  have hcv : caV v1 v2 v3 v4 c = .agg #[v1, v2, v3, v4, .string (Mt.str c.att), .int .i64 c.right] := rfl
  rw [hcv] at HSM ⊢
  obtain ⟨a1, c1, rfl, -⟩ := h.admin
  obtain ⟨a2, c2, rfl, -⟩ := h.who
  obtain ⟨a3, c3, rfl, -⟩ := h.entry
  obtain ⟨ra, rc, rfl, hrc, -⟩ := h.rules
  have HLT : Hid ((c.rules.take K).length = K) := Lib.hid (by rw [List.length_take, Nat.min_eq_left hK])
  have HLB : Hid ((Mt.denyR :: c.rules).length * 72 ≤ 140737488355000 ∧ ((c.rules.take K) ++ [Mt.denyR]).length * 72 ≤ 140737488355000 ∧ (c.rules.take K).length * 72 ≤ 140737488355000) := Lib.hid (by
    rw [List.length_append, HLT.out, List.length_cons]; simp only [List.length_cons, List.length_nil]; omega)
  have HTK : Hid (∀ u : World, Below w.heap.size w u → IsRus u (.slice ra K rc) (c.rules.take K)) := Lib.hid (fun u hu => (HRL.out u hu).take hK)
  generalize hgm : c.rules.length = m at HNW HSM HRL HKE hm0 hK hrc ⊢
  have HLM := Lib.hid hgm
  clear hgm
  generalize c.admin.length = n1 at *
  generalize c.who.length = n2 at *
  generalize c.entry.length = n3 at *
  generalize Mt.str c.att = AB at *
  generalize c.right = ri at *
  obtain ⟨w1, hw1⟩ : ∃ u, w.alloc (.cells #[.slice a1 n1 c1, .slice a2 n2 c2, .slice a3 n3 c3, .slice ra m rc, .string AB, .int .i64 ri] 26) = u := ⟨_, rfl⟩
  have hA1 : Below w.heap.size w w1 := by rw [← hw1]; exact (Below.refl _ w).alloc (Nat.le_refl _) _
  have hx1 : w1.heap[w.heap.size]? = some (.cells #[.slice a1 n1 c1, .slice a2 n2 c2, .slice a3 n3 c3, .slice ra m rc, .string AB, .int .i64 ri] 26) := by rw [← hw1]; exact heap_alloc_new w _
  have HU : Hid (∀ u, Below w1.heap.size w1 u → u.heap[w.heap.size]? = some (.cells #[.slice a1 n1 c1, .slice a2 n2 c2, .slice a3 n3 c3, .slice ra m rc, .string AB, .int .i64 ri] 26) ∧ Below w.heap.size w u) := Lib.hid (fun u hu => ⟨(hu.block _ (lt_of_block hx1)).trans hx1, hA1.trans (hu.mono hA1.size)⟩)
  have HQ : Hid (∀ u, Below w1.heap.size w1 u → u.cell? ⟨w.heap.size, 0, none⟩ = some (.slice a1 n1 c1) ∧ u.cell? ⟨w.heap.size, 1, none⟩ = some (.slice a2 n2 c2) ∧ u.cell? ⟨w.heap.size, 2, none⟩ = some (.slice a3 n3 c3) ∧ u.cell? ⟨w.heap.size, 3, none⟩ = some (.slice ra m rc) ∧ u.cell? ⟨w.heap.size, 4, none⟩ = some (.string AB) ∧ u.cell? ⟨w.heap.size, 5, none⟩ = some (.int .i64 ri)) := Lib.hid (fun u hu => box6_of (HU.out u hu).1)
  have HW1 : Hid (Below w1.heap.size w1 w1.drew) := Lib.hid (Below.refl _ w1).drew
  have HIN1 : Hid (∀ r ∈ c.rules.take K, r ∈ c.rules ∨ r = Mt.denyR) := Lib.hid (fun r hr => .inl (List.mem_of_mem_take hr))
  have HIN2 : Hid (∀ r ∈ Mt.denyR :: c.rules, r ∈ c.rules ∨ r = Mt.denyR) := Lib.hid (fun r hr => by
    rcases List.mem_cons.1 hr with h | h
    · exact .inr h
    · exact .inl h)
  have HIN3 : Hid (∀ r ∈ c.rules.take K ++ [Mt.denyR], r ∈ c.rules ∨ r = Mt.denyR) := Lib.hid (fun r hr => by
    rcases List.mem_append.1 hr with h | h
    · exact .inl (List.mem_of_mem_take h)
    · exact .inr (by simpa using h))
  generalize hT : c.rules.take K = TK at *
  generalize c.rules = RS at *
  generalize c.admin = AD at *
  generalize c.who = WH at *
  generalize c.entry = EN at *
  generalize c.att = AT at *
  clear h hA1 hx1 hRR hcv hKe hT
  go_enter Tryz.func6, Tryz.ntmps6
  go_upto_region 1 with fail
  go_region_held3 (fun w' => w'.cell? ⟨w.heap.size, 0, none⟩ = some (.slice a1 n1 c1) ∧ w'.cell? ⟨w.heap.size, 1, none⟩ = some (.slice a2 n2 c2) ∧ w'.cell? ⟨w.heap.size, 2, none⟩ = some (.slice a3 n3 c3) ∧ w'.cell? ⟨w.heap.size, 3, none⟩ = some (.slice ra m rc) ∧ w'.cell? ⟨w.heap.size, 4, none⟩ = some (.string AB) ∧ w'.cell? ⟨w.heap.size, 5, none⟩ = some (.int .i64 ri))
    (first
      | with_reducible exact HQ.out _ HW1.out
      | with_reducible exact HQ.out _ HW3.out
      | with_reducible exact HQ.out _ HW4.out
      | go_keep)
    (first
      | (go_at_call 11; (with_reducible refine (HCF.out _).mono ?_); rintro e w3 ⟨ta, tn, tc, ca, cn, cc, rfl, hf, hb⟩; have HW3 := Lib.hid (HW1.out.trans (hb.mono HW1.out.size)); have HSC3 := Lib.hid (hf w3 (fun _ _ _ => rfl)); clear hb hf)
      | (go_at_call 10; (with_reducible refine (HNW.out _ (HU.out _ HW3.out).2 _ _ HSC3.out).mono ?_); rintro e w4 ⟨hnp, hb⟩; have HW4 := Lib.hid (HW3.out.trans (hb.mono HW3.out.size)); obtain ⟨NB, EE, rfl, hen⟩ : ∃ NB EE, e = .returned (.tuple #[NB, .int .i64 EE]) ∧ ((∃ x : Nat, RR = .error x ∧ EE = x ∧ NB = .pointer none) ∨ (∃ cs p, RR = .ok cs ∧ EE = 0 ∧ NB = .pointer (some ⟨p, 0, none⟩) ∧ IsBk w4 (.pointer (some ⟨p, 0, none⟩)) cs)) := (by
          rcases hnp.two with ⟨x, h1, h2⟩ | ⟨cs, p, h1, h2, h3⟩
          · exact ⟨_, _, h2, .inl ⟨x, h1, rfl, rfl⟩⟩
          · exact ⟨_, _, h2, .inr ⟨cs, p, h1, rfl, rfl, h3⟩⟩); have HEN := Lib.hid hen; clear hnp hb hen))
  all_goals
    go_upto_region 2 with fail
    obtain ⟨q0, q1, q2, q3, q4, q5⟩ := HQ.out _ HW4.out
    have HC4 := Lib.hid (HSM.out _ (HU.out _ HW4.out).2)
    rcases HEN.out with ⟨x, hr, rfl, rfl⟩ | ⟨cs, p, hr, rfl, rfl, hbk⟩
    · have hx0 := HERR.out x hr
      have k1 : ((x : Int) != 0) = true := by simp; omega
      have k2 : ¬ x = 0 := by omega
      clear HEN hr hx0
      go_wp2_with fail
      refine (HC4.out).mono ?_
      rintro e w5 ⟨⟨bb, rfl⟩, hb⟩
      have HW5 := Lib.hid (HW4.out.trans (hb.mono HW4.out.size))
      clear hb q0 q1 q2 q3 q4 q5
      cases bb
      all_goals
        go_wp2_with fail
        refine (HA.out _).mono ?_
        rintro e w6 ⟨rfl, hb⟩
        have HB6 := Lib.hid (HU.out _ (HW5.out.trans (hb.mono HW5.out.size))).2
        clear hb
        go_wp2_with fail
        all_goals (go_ret; exact ⟨rfl, HB6.out⟩)
    · have HBK : Hid (IsB w4 AD p RS) := Lib.hid ⟨cs, HOK.out cs hr, hbk⟩
      have HNBc := Lib.hid (HNB.out cs hr)
      clear HEN hr hbk
      go_wp2_with fail
      refine (HC4.out).mono ?_
      rintro e w5 ⟨⟨bb, rfl⟩, hb⟩
      have HW5 := Lib.hid (HW4.out.trans (hb.mono HW4.out.size))
      have HBK5 := Lib.hid (HBK.out.below hb)
      clear hb q0 q1 q2 q3 q4 q5
      cases bb with
      | false =>
        go_wp2_with fail
        refine (HA.out _).mono ?_
        rintro e w6 ⟨rfl, hb⟩
        have HB6 := Lib.hid (HU.out _ (HW5.out.trans (hb.mono HW5.out.size))).2
        clear hb
        go_wp2_with fail
        all_goals (go_ret; exact ⟨rfl, HB6.out⟩)
      | true =>
      obtain ⟨q0, q1, q2, q3, q4, q5⟩ := HQ.out _ HW5.out
      have HW5d := Lib.hid (show Below w1.heap.size w1 w5.drew from HW5.out.drew)
      have HBK5d := Lib.hid (HBK5.out.below (show Below w5.heap.size w5 w5.drew from (Below.refl _ w5).drew))
      go_upto_region 5 with fail
      try rw [HKE.out]
      clear hm0 q0 q1 q2 q3 q4 q5
      have s0 : (0 : Int) ≤ (K : Int) := by omega
      have s1 : (K : Int) ≤ (rc : Int) := by omega
      have s2 : K ≤ rc := by omega
      go_region_held3 (fun w' => w'.cell? ⟨w.heap.size, 0, none⟩ = some (.slice a1 n1 c1) ∧ w'.cell? ⟨w.heap.size, 1, none⟩ = some (.slice a2 n2 c2) ∧ w'.cell? ⟨w.heap.size, 2, none⟩ = some (.slice a3 n3 c3) ∧ w'.cell? ⟨w.heap.size, 3, none⟩ = some (.slice ra m rc) ∧ w'.cell? ⟨w.heap.size, 4, none⟩ = some (.string AB) ∧ w'.cell? ⟨w.heap.size, 5, none⟩ = some (.int .i64 ri))
        (first
          | with_reducible exact HQ.out _ HW5d.out
          | with_reducible exact HQ.out _ HW3.out
          | with_reducible exact HQ.out _ HW6.out
          | go_keep)
        (first
          | (go_at_call 11; (with_reducible refine (HCF.out _).mono ?_); rintro e w3 ⟨ta, tn, tc, ca, cn, cc, rfl, hf, hb⟩; have HBK3 := Lib.hid (HBK5d.out.below hb); have HW3 := Lib.hid (HW5d.out.trans (hb.mono HW5d.out.size)); have HSC3 := Lib.hid (hf w3 (fun _ _ _ => rfl)); clear hb hf)
          | (go_at_call 10; (with_reducible refine (HNBc.out _ HIN1.out HLB.out.2.2 _ _ _ _ (HU.out _ HW3.out).2 (And.intro HSC3.out (HTK.out _ (HU.out _ HW3.out).2))).mono ?_); rintro e w6 ⟨p2, rfl, hB, hb⟩; have HW6 := Lib.hid (HW3.out.trans (hb.mono HW3.out.size)); have HBK6 := Lib.hid (HBK3.out.below hb); have HAH6 := Lib.hid hB; clear hB hb))
      all_goals
        clear s0 s1 s2
        go_upto_region 6 with fail
        have hb0 : Below w6.heap.size w6 w6.drew := (Below.refl _ w6).drew
        have HW0 := Lib.hid (HW6.out.trans (hb0.mono HW6.out.size))
        have HBK0 := Lib.hid (HBK6.out.below hb0)
        have HAH0 := Lib.hid (HAH6.out.below hb0)
        have HV : Hid (∀ u, Below w6.drew.heap.size w6.drew u → Below w1.heap.size w1 u) := Lib.hid (fun u hu => HW0.out.trans (hu.mono HW0.out.size))
        have HS := Lib.hid (St.zero (Below.refl w6.drew.heap.size w6.drew))
        have HK6 : Hid ((1 + m = m + 1) ∧ (m + 1) * 72 ≤ 140737488355328) := Lib.hid ⟨by omega, by have := HLB.out.1; rw [List.length_cons, HLM.out] at this; omega⟩
        clear hb0 HW6 HW3 HSC3 HBK3 HBK6 HAH6 HBK5 HBK5d HW5 HW5d HBK HC4 HW4
        go_cut [10, 11] from 55 to 67 (fun t10 t11 wx => t11 = .int .i64 0 ∧ ∃ p6, t10 = .pointer (some ⟨p6, 0, none⟩) ∧ Hid (IsB wx AD p6 (Mt.denyR :: RS)) ∧ Hid (Below w6.drew.heap.size w6.drew wx))
        case first =>
          go_region_held3 (fun w' => w'.cell? ⟨w.heap.size, 0, none⟩ = some (.slice a1 n1 c1) ∧ w'.cell? ⟨w.heap.size, 1, none⟩ = some (.slice a2 n2 c2) ∧ w'.cell? ⟨w.heap.size, 2, none⟩ = some (.slice a3 n3 c3) ∧ w'.cell? ⟨w.heap.size, 3, none⟩ = some (.slice ra m rc) ∧ w'.cell? ⟨w.heap.size, 4, none⟩ = some (.string AB) ∧ w'.cell? ⟨w.heap.size, 5, none⟩ = some (.int .i64 ri))
            (first
              | with_reducible exact HQ.out _ (HV.out _ HS.out.bel)
              | with_reducible exact HQ.out _ (HV.out _ HS.out.bldA.bel)
              | with_reducible exact HQ.out _ (HV.out _ HBn.out)
              | go_keep)
            (first
              | (go_at_call 11; (with_reducible refine (HCF.out _).mono ?_); rintro e w3 ⟨ta, tn, tc, ca, cn, cc, rfl, hf, hb⟩; first | (have HS := Lib.hid (HS.out.core hf hb)) | (have HS := Lib.hid (HS.out.bldA.core hf hb)); clear hf hb)
              | ((first | with_reducible refine step_app2 HS.out (HRL.out _ (HU.out _ (HV.out _ HS.out.bel)).2) rfl HLM.out HK6.out.1 HK6.out.2 ?_ (.tmp 60) (.tmp 62) ?_ ?_ ?_ ?_ | with_reducible refine step_app2 HS.out.bldA (HRL.out _ (HU.out _ (HV.out _ HS.out.bldA.bel)).2) rfl HLM.out HK6.out.1 HK6.out.2 ?_ (.tmp 60) (.tmp 62) ?_ ?_ ?_ ?_); (rfl); (rfl); (rfl); (rfl); intro a6 c6 u6 hs; have HS := Lib.hid hs; clear hs)
              | (go_at_call 10; have hfin := HS.out.fin (n := m + 1) (by rw [List.length_append, HLM.out]; simp; omega); (with_reducible refine (HNBc.out _ HIN2.out HLB.out.1 _ _ _ _ (HU.out _ (HV.out _ HS.out.bel)).2 hfin).mono ?_); rintro e w7 ⟨p6, rfl, hB, hb⟩; have HBn := Lib.hid (HS.out.bel.trans (hb.mono HS.out.bel.size)); have HNO6 := Lib.hid hB; clear hB hb hfin))
          all_goals
            go_wp2_with fail
            go_meet
            case rel => exact ⟨rfl, _, rfl, HNO6, HBn⟩
        case rest =>
          obtain ⟨rfl, p6, rfl, HNO6, HB6⟩ := hcut
          have HWc := Lib.hid (HV.out _ HB6.out)
          have hbd : Below wc.heap.size wc wc.drew := (Below.refl _ wc).drew
          have HW0c := Lib.hid (HWc.out.trans (hbd.mono HWc.out.size))
          have HBKc := Lib.hid ((HBK0.out.below HB6.out).below hbd)
          have HAHc := Lib.hid ((HAH0.out.below HB6.out).below hbd)
          have HNOc := Lib.hid (HNO6.out.below hbd)
          have HVc : Hid (∀ u, Below wc.drew.heap.size wc.drew u → Below w1.heap.size w1 u) := Lib.hid (fun u hu => HW0c.out.trans (hu.mono HW0c.out.size))
          have HSc := Lib.hid (St.zero (Below.refl wc.drew.heap.size wc.drew))
          have HSd := Lib.hid (show St wc.drew (wc.alloc (.cells #[.int .i64 0, .string ⟨#[]⟩, .string ⟨#[]⟩, .string ⟨#[]⟩, .int .i64 15, .bool false] 54)).drew none none (some wc.drew.heap.size) from HSc.out.bld)
          have HK7 : Hid ((K + 1 = K + 1) ∧ (K + 1) * 72 ≤ 140737488355328 ∧ K * 72 ≤ 140737488355328 ∧ [Mt.denyR].length = 1) := Lib.hid ⟨rfl, by have := HLB.out.2.1; rw [List.length_append, HLT.out] at this; simp at this; omega, by have := HLB.out.2.2; rw [HLT.out] at this; omega, rfl⟩
          have s0 : (0 : Int) ≤ (K : Int) := by omega
          have s1 : (K : Int) ≤ (rc : Int) := by omega
          have s2 : K ≤ rc := by omega
          clear hbd HNO6 HBK0 HAH0 HB6 HV HS HW0 HW0c HWc HK6
          go_upto_region 7 with fail
          go_cut [12, 13] from 67 to 82 (fun t12 t13 wx => t13 = .int .i64 0 ∧ ∃ p7, t12 = .pointer (some ⟨p7, 0, none⟩) ∧ Hid (IsB wx AD p7 (TK ++ [Mt.denyR])) ∧ Hid (Below wc.drew.heap.size wc.drew wx))
          case first =>
            go_region_held3 (fun w' => w'.cell? ⟨w.heap.size, 0, none⟩ = some (.slice a1 n1 c1) ∧ w'.cell? ⟨w.heap.size, 1, none⟩ = some (.slice a2 n2 c2) ∧ w'.cell? ⟨w.heap.size, 2, none⟩ = some (.slice a3 n3 c3) ∧ w'.cell? ⟨w.heap.size, 3, none⟩ = some (.slice ra m rc) ∧ w'.cell? ⟨w.heap.size, 4, none⟩ = some (.string AB) ∧ w'.cell? ⟨w.heap.size, 5, none⟩ = some (.int .i64 ri))
              (first
                | with_reducible exact HQ.out _ (HVc.out _ HSc.out.bel)
                | with_reducible exact HQ.out _ (HVc.out _ HSc.out.bld.bel)
                | with_reducible exact HQ.out _ (HVc.out _ HSd.out.bel)
                | with_reducible exact HQ.out _ (HVc.out _ HBn.out)
                | go_keep)
              (first
                | (go_at_call 11; (with_reducible refine (HCF.out _).mono ?_); rintro e w3 ⟨ta, tn, tc, ca, cn, cc, rfl, hf, hb⟩; first | (have HSc := Lib.hid (HSc.out.core hf hb)) | (have HSc := Lib.hid (HSc.out.bld.core hf hb)) | (have HSc := Lib.hid (HSd.out.core hf hb)); clear hf hb)
                | ((first | with_reducible refine step_app1 HSc.out (HTK.out _ (HU.out _ (HVc.out _ HSc.out.bel)).2) HLT.out HK7.out.2.2.1 ?_ (.const (.slice none 0 0)) (.tmp 74) ?_ ?_ ?_ ?_ | with_reducible refine step_app1 HSc.out.bld (HTK.out _ (HU.out _ (HVc.out _ HSc.out.bld.bel)).2) HLT.out HK7.out.2.2.1 ?_ (.const (.slice none 0 0)) (.tmp 74) ?_ ?_ ?_ ?_ | with_reducible refine step_app1 HSd.out (HTK.out _ (HU.out _ (HVc.out _ HSd.out.bel)).2) HLT.out HK7.out.2.2.1 ?_ (.const (.slice none 0 0)) (.tmp 74) ?_ ?_ ?_ ?_); (rfl); (rfl); (rfl); (rfl); intro a7 c7 u7 hs; have HSc := Lib.hid hs; clear hs)
                | ((first | with_reducible refine step_app2 HSc.out HSc.out.row HLT.out HK7.out.2.2.2 (Eq.refl _) HK7.out.2.1 ?_ (.tmp 75) (.tmp 77) ?_ ?_ ?_ ?_ | with_reducible refine step_app2 HSc.out.bld HSc.out.bld.row HLT.out HK7.out.2.2.2 (Eq.refl _) HK7.out.2.1 ?_ (.tmp 75) (.tmp 77) ?_ ?_ ?_ ?_); (rfl); (rfl); (rfl); (rfl); intro a7 c7 u7 hs; have HSc := Lib.hid hs; clear hs)
                | (go_at_call 10; have hfin := HSc.out.fin (n := K + 1) (by rw [List.length_append, HLT.out]; rfl); (with_reducible refine (HNBc.out _ HIN3.out HLB.out.2.1 _ _ _ _ (HU.out _ (HVc.out _ HSc.out.bel)).2 hfin).mono ?_); rintro e w7 ⟨p7, rfl, hB, hb⟩; have HBn := Lib.hid (HSc.out.bel.trans (hb.mono HSc.out.bel.size)); have HSH7 := Lib.hid hB; clear hB hb hfin))
            all_goals
              go_wp2_with fail
              go_meet
              case rel => exact ⟨rfl, _, rfl, HSH7, HBn⟩
          case rest =>
            obtain ⟨rfl, p7, rfl, HSH, HB7⟩ := hcut
            have HWd := Lib.hid (HVc.out _ HB7.out)
            have HBKd := Lib.hid (HBKc.out.below HB7.out)
            have HAHd := Lib.hid (HAHc.out.below HB7.out)
            have HNOd := Lib.hid (HNOc.out.below HB7.out)
            clear HBKc HAHc HNOc HB7 HVc HSc HSd HK7 s0 s1 s2
            obtain ⟨Z, hZ⟩ : ∃ z, Mt.rmayA AD RS WH EN AT ri = z := ⟨_, rfl⟩
            obtain ⟨E, hE⟩ : ∃ z, Mt.rmayA AD TK WH EN AT ri = z := ⟨_, rfl⟩
            obtain ⟨A0, hA0⟩ : ∃ z, Mt.rmayA AD [] WH EN AT ri = z := ⟨_, rfl⟩
            have HM1 := Lib.hid (HMB.out RS)
            have HM2 := Lib.hid (HMB.out TK)
            have HM6 := Lib.hid (HMB.out (Mt.denyR :: RS))
            have HM7 := Lib.hid (HMB.out (TK ++ [Mt.denyR]))
            have HM0 := Lib.hid (HMB.out [])
            rw [HMD.out] at HM6
            rw [HMH.out] at HM7
            rw [hZ, hE] at HMM
            simp only [hZ] at HM1
            simp only [hE] at HM2 HM7
            simp only [hA0] at HM6 HM0
            clear hZ hE hA0 HMB HMD HMH
            go_upto_region 10 with fail
            obtain ⟨q0, q1, q2, q3, q4, q5⟩ := HQ.out _ HWd.out
            have HCM := Lib.hid (HM1.out _ p (HU.out _ HWd.out).2 HBKd.out)
            go_wp2_with fail
            refine (HCM.out).mono ?_
            rintro e wa ⟨rfl, hb⟩
            have HWa := Lib.hid (HWd.out.trans (hb.mono HWd.out.size))
            have HAHa := Lib.hid (HAHd.out.below hb)
            have HNOa := Lib.hid (HNOd.out.below hb)
            have HSHa := Lib.hid (HSH.out.below hb)
            clear hb q0 q1 q2 q3 q4 q5 HCM HAHd HNOd HSH HBKd
            obtain ⟨q0, q1, q2, q3, q4, q5⟩ := HQ.out _ HWa.out
            have HCM := Lib.hid (HM2.out _ p2 (HU.out _ HWa.out).2 HAHa.out)
            go_wp2_with fail
            refine (HCM.out).mono ?_
            rintro e wb ⟨rfl, hb⟩
            have HWb := Lib.hid (HWa.out.trans (hb.mono HWa.out.size))
            have HNOb := Lib.hid (HNOa.out.below hb)
            have HSHb := Lib.hid (HSHa.out.below hb)
            clear hb q0 q1 q2 q3 q4 q5 HCM HAHa HNOa HSHa
            go_upto_region 12 with fail
            have hbd : Below wb.heap.size wb wb.drew := (Below.refl _ wb).drew
            have HWe := Lib.hid (HWb.out.trans (hbd.mono HWb.out.size))
            have HNOe := Lib.hid (HNOb.out.below hbd)
            have HSHe := Lib.hid (HSHb.out.below hbd)
            have HNL : Hid ((∀ r ∈ ([] : List Mt.Ru), r ∈ RS ∨ r = Mt.denyR) ∧ ([] : List Mt.Ru).length * 72 ≤ 140737488355000 ∧ ∀ u : World, IsRus u (.slice none 0 0) []) := Lib.hid ⟨fun r hr => absurd hr (by simp), by simp, fun u => ⟨none, 0, rfl, by simp, Lib.hid fun j hj => absurd hj (by simp)⟩⟩
            clear hbd HNOb HSHb
            go_region_held3 (fun w' => w'.cell? ⟨w.heap.size, 0, none⟩ = some (.slice a1 n1 c1) ∧ w'.cell? ⟨w.heap.size, 1, none⟩ = some (.slice a2 n2 c2) ∧ w'.cell? ⟨w.heap.size, 2, none⟩ = some (.slice a3 n3 c3) ∧ w'.cell? ⟨w.heap.size, 3, none⟩ = some (.slice ra m rc) ∧ w'.cell? ⟨w.heap.size, 4, none⟩ = some (.string AB) ∧ w'.cell? ⟨w.heap.size, 5, none⟩ = some (.int .i64 ri))
              (first
                | with_reducible exact HQ.out _ HWe.out
                | with_reducible exact HQ.out _ HW3.out
                | with_reducible exact HQ.out _ HW8.out
                | go_keep)
              (first
                | (go_at_call 11; (with_reducible refine (HCF.out _).mono ?_); rintro e w3 ⟨ta, tn, tc, ca, cn, cc, rfl, hf, hb⟩; have HNO3 := Lib.hid (HNOe.out.below hb); have HSH3 := Lib.hid (HSHe.out.below hb); have HW3 := Lib.hid (HWe.out.trans (hb.mono HWe.out.size)); have HSC3 := Lib.hid (hf w3 (fun _ _ _ => rfl)); clear hb hf)
                | (go_at_call 10; (with_reducible refine (HNBc.out _ HNL.out.1 HNL.out.2.1 _ _ _ _ (HU.out _ HW3.out).2 (And.intro HSC3.out (HNL.out.2.2 _))).mono ?_); rintro e w8 ⟨p8, rfl, hB, hb⟩; have HW8 := Lib.hid (HW3.out.trans (hb.mono HW3.out.size)); have HNO8 := Lib.hid (HNO3.out.below hb); have HSH8 := Lib.hid (HSH3.out.below hb); have HAL8 := Lib.hid hB; clear hB hb))
            have HX : Hid (∀ u, Below w8.heap.size w8 u → (u.cell? ⟨w.heap.size, 0, none⟩ = some (.slice a1 n1 c1) ∧ u.cell? ⟨w.heap.size, 1, none⟩ = some (.slice a2 n2 c2) ∧ u.cell? ⟨w.heap.size, 2, none⟩ = some (.slice a3 n3 c3) ∧ u.cell? ⟨w.heap.size, 3, none⟩ = some (.slice ra m rc) ∧ u.cell? ⟨w.heap.size, 4, none⟩ = some (.string AB) ∧ u.cell? ⟨w.heap.size, 5, none⟩ = some (.int .i64 ri)) ∧ Below w.heap.size w u) := Lib.hid (fun u hu => ⟨HQ.out u (HW8.out.trans (hu.mono HW8.out.size)), (HU.out u (HW8.out.trans (hu.mono HW8.out.size))).2⟩)
            have HN6 := Lib.hid (fun (u : World) (hu : Below w8.heap.size w8 u) => HM6.out u p6 (HX.out u hu).2 (HNO8.out.below hu))
            have HN7 := Lib.hid (fun (u : World) (hu : Below w8.heap.size w8 u) => HM7.out u p7 (HX.out u hu).2 (HSH8.out.below hu))
            have HN8 := Lib.hid (fun (u : World) (hu : Below w8.heap.size w8 u) => HM0.out u p8 (HX.out u hu).2 (HAL8.out.below hu))
            clear HW3 HSC3 HNO3 HSH3 HNOe HSHe HWe HM1 HM2 HM6 HM7 HM0 HNO8 HSH8 HAL8
            go_upto_region 13 with fail
            cases E
            case false =>
              generalize hF : (Act.mk _ _) = F
              have HF2 : Hid (F.tmps[2]? = some (.pointer (some ⟨w.heap.size, 0, none⟩))) := Lib.hid (by rw [← hF]; rfl)
              have HF10 : Hid (F.tmps[10]? = some (.pointer (some ⟨p6, 0, none⟩))) := Lib.hid (by rw [← hF]; rfl)
              have HF12 : Hid (F.tmps[12]? = some (.pointer (some ⟨p7, 0, none⟩))) := Lib.hid (by rw [← hF]; rfl)
              have HF14 : Hid (F.tmps[14]? = some (.bool Z)) := Lib.hid (by rw [← hF]; rfl)
              have HF15 : Hid (F.tmps[15]? = some (.bool false)) := Lib.hid (by rw [← hF]; rfl)
              have HF16 : Hid (F.tmps[16]? = some (.pointer (some ⟨p8, 0, none⟩))) := Lib.hid (by rw [← hF]; rfl)
              have HSZ : Hid (injD (fun i => if i = 45 then 4 else 119 + i) 46 F.tmps.size = true) := Lib.hid (by rw [show F.tmps.size = 164 by rw [← hF]; rfl]; decide +kernel)
              have HF := Lib.hid hF
              clear hF
              refine wp_region_some (by kernel_rfl) F (fun i => if i = 45 then 4 else 119 + i) [.bool true, .bool true, .bool false, .bool true, .bool true, undef, .bool true, .bool true, .bool true, .pointer (some ⟨p6, 0, none⟩), .pointer (some ⟨w.heap.size, 1, none⟩), .slice a2 n2 c2, .pointer (some ⟨w.heap.size, 2, none⟩), .slice a3 n3 c3, .pointer (some ⟨w.heap.size, 4, none⟩), .string AB, .pointer (some ⟨w.heap.size, 5, none⟩), .int .i64 ri, .bool A0, .pointer (some ⟨p8, 0, none⟩), .pointer (some ⟨w.heap.size, 1, none⟩), .slice a2 n2 c2, .pointer (some ⟨w.heap.size, 2, none⟩), .slice a3 n3 c3, .pointer (some ⟨w.heap.size, 4, none⟩), .string AB, .pointer (some ⟨w.heap.size, 5, none⟩), .int .i64 ri, .bool A0, .bool true, .bool true, .bool true, .pointer (some ⟨p7, 0, none⟩), .pointer (some ⟨w.heap.size, 1, none⟩), .slice a2 n2 c2, .pointer (some ⟨w.heap.size, 2, none⟩), .slice a3 n3 c3, .pointer (some ⟨w.heap.size, 4, none⟩), .string AB, .pointer (some ⟨w.heap.size, 5, none⟩), .int .i64 ri, .bool false, .bool false, .bool true, .bool true, .bool true] (fun _ => false) (fun _ _ _ => True) w8 46 (fun _ _ _ _ _ _ => trivial) rfl rfl HSZ.out (by kernel_rfl) (by kernel_rfl) ?step ?fin
              case step =>
                intro i o ho a X u hu hout hd hX
                match i, ho with
                | 0, ho =>
                  obtain rfl := Option.some.inj ho
                  clear hd ho hout hX
                  refine wpOp_step rfl (fun K' hK' => ?_)
                  go_simp
                  refine (HA.out _).mono ?_
                  rintro e w9 ⟨rfl, hb9⟩
                  exact hK' _ _ ⟨fun _ => rfl, fun h => absurd h (by decide), hb9⟩
                | 1, ho =>
                  obtain rfl := Option.some.inj ho
                  have e0' : a.tmps[119]? = some (.bool true) := hd 0 rfl rfl
                  clear hd ho hout hX
                  refine wpOp_step rfl (fun K' hK' => ?_)
                  go_simp
                  exact hK' _ _ ⟨fun _ => rfl, fun h => absurd h (by decide), Below.refl _ _⟩
                | 2, ho =>
                  obtain rfl := Option.some.inj ho
                  have e1' : a.tmps[120]? = some (.bool true) := hd 1 rfl rfl
                  have f15 : a.tmps[15]? = some (.bool false) := (hout 15 (by decide)).trans HF15.out
                  clear hd ho hout hX
                  refine wpOp_step rfl (fun K' hK' => ?_)
                  go_simp
                  exact hK' _ _ ⟨fun _ => rfl, fun h => absurd h (by decide), Below.refl _ _⟩
                | 3, ho =>
                  obtain rfl := Option.some.inj ho
                  have e1' : a.tmps[120]? = some (.bool true) := hd 1 rfl rfl
                  have e2' : a.tmps[121]? = some (.bool false) := hd 2 rfl rfl
                  clear hd ho hout hX
                  refine wpOp_step rfl (fun K' hK' => ?_)
                  go_simp
                  exact hK' _ _ ⟨fun _ => rfl, fun h => absurd h (by decide), Below.refl _ _⟩
                | 4, ho =>
                  obtain rfl := Option.some.inj ho
                  have e1' : a.tmps[120]? = some (.bool true) := hd 1 rfl rfl
                  have e3' : a.tmps[122]? = some (.bool true) := hd 3 rfl rfl
                  clear hd ho hout hX
                  refine wpOp_step rfl (fun K' hK' => ?_)
                  go_simp
                  exact hK' _ _ ⟨fun _ => rfl, fun h => absurd h (by decide), Below.refl _ _⟩
                | 5, ho =>
                  obtain rfl := Option.some.inj ho
                  have e4' : a.tmps[123]? = some (.bool true) := hd 4 rfl rfl
                  have f14 : a.tmps[14]? = some (.bool Z) := (hout 14 (by decide)).trans HF14.out
                  clear hd ho hout hX
                  refine wpOp_step rfl (fun K' hK' => ?_)
                  go_simp
                  exact hK' _ _ ⟨fun _ => rfl, fun h => absurd h (by decide), Below.refl _ _⟩
                | 6, ho =>
                  obtain rfl := Option.some.inj ho
                  have e1' : a.tmps[120]? = some (.bool true) := hd 1 rfl rfl
                  have e4' : a.tmps[123]? = some (.bool true) := hd 4 rfl rfl
                  have e5' : a.tmps[124]? = some (undef) := hd 5 rfl rfl
                  clear hd ho hout hX
                  refine wpOp_step rfl (fun K' hK' => ?_)
                  go_simp
                  exact hK' _ _ ⟨fun _ => rfl, fun h => absurd h (by decide), Below.refl _ _⟩
                | 7, ho =>
                  obtain rfl := Option.some.inj ho
                  have e1' : a.tmps[120]? = some (.bool true) := hd 1 rfl rfl
                  have e6' : a.tmps[125]? = some (.bool true) := hd 6 rfl rfl
                  clear hd ho hout hX
                  refine wpOp_step rfl (fun K' hK' => ?_)
                  go_simp
                  exact hK' _ _ ⟨fun _ => rfl, fun h => absurd h (by decide), Below.refl _ _⟩
                | 8, ho =>
                  obtain rfl := Option.some.inj ho
                  have e7' : a.tmps[126]? = some (.bool true) := hd 7 rfl rfl
                  clear hd ho hout hX
                  refine wpOp_step rfl (fun K' hK' => ?_)
                  go_simp
                  exact hK' _ _ ⟨fun _ => rfl, fun h => absurd h (by decide), Below.refl _ _⟩
                | 9, ho =>
                  obtain rfl := Option.some.inj ho
                  have e8' : a.tmps[127]? = some (.bool true) := hd 8 rfl rfl
                  have f10 : a.tmps[10]? = some (.pointer (some ⟨p6, 0, none⟩)) := (hout 10 (by decide)).trans HF10.out
                  clear hd ho hout hX
                  refine wpOp_step rfl (fun K' hK' => ?_)
                  go_simp
                  exact hK' _ _ ⟨fun _ => rfl, fun h => absurd h (by decide), Below.refl _ _⟩
                | 10, ho =>
                  obtain rfl := Option.some.inj ho
                  have e8' : a.tmps[127]? = some (.bool true) := hd 8 rfl rfl
                  have f2 : a.tmps[2]? = some (.pointer (some ⟨w.heap.size, 0, none⟩)) := (hout 2 (by decide)).trans HF2.out
                  clear hd ho hout hX
                  refine wpOp_step rfl (fun K' hK' => ?_)
                  go_simp
                  exact hK' _ _ ⟨fun _ => rfl, fun h => absurd h (by decide), Below.refl _ _⟩
                | 11, ho =>
                  obtain rfl := Option.some.inj ho
                  have e8' : a.tmps[127]? = some (.bool true) := hd 8 rfl rfl
                  have e10' : a.tmps[129]? = some (.pointer (some ⟨w.heap.size, 1, none⟩)) := hd 10 rfl rfl
                  clear hd ho hout hX
                  refine wpOp_step rfl (fun K' hK' => ?_)
                  obtain ⟨⟨q0, q1, q2, q3, q4, q5⟩, -⟩ := HX.out _ hu
                  go_simp
                  exact hK' _ _ ⟨fun _ => rfl, fun h => absurd h (by decide), Below.refl _ _⟩
                | 12, ho =>
                  obtain rfl := Option.some.inj ho
                  have e8' : a.tmps[127]? = some (.bool true) := hd 8 rfl rfl
                  have f2 : a.tmps[2]? = some (.pointer (some ⟨w.heap.size, 0, none⟩)) := (hout 2 (by decide)).trans HF2.out
                  clear hd ho hout hX
                  refine wpOp_step rfl (fun K' hK' => ?_)
                  go_simp
                  exact hK' _ _ ⟨fun _ => rfl, fun h => absurd h (by decide), Below.refl _ _⟩
                | 13, ho =>
                  obtain rfl := Option.some.inj ho
                  have e8' : a.tmps[127]? = some (.bool true) := hd 8 rfl rfl
                  have e12' : a.tmps[131]? = some (.pointer (some ⟨w.heap.size, 2, none⟩)) := hd 12 rfl rfl
                  clear hd ho hout hX
                  refine wpOp_step rfl (fun K' hK' => ?_)
                  obtain ⟨⟨q0, q1, q2, q3, q4, q5⟩, -⟩ := HX.out _ hu
                  go_simp
                  exact hK' _ _ ⟨fun _ => rfl, fun h => absurd h (by decide), Below.refl _ _⟩
                | 14, ho =>
                  obtain rfl := Option.some.inj ho
                  have e8' : a.tmps[127]? = some (.bool true) := hd 8 rfl rfl
                  have f2 : a.tmps[2]? = some (.pointer (some ⟨w.heap.size, 0, none⟩)) := (hout 2 (by decide)).trans HF2.out
                  clear hd ho hout hX
                  refine wpOp_step rfl (fun K' hK' => ?_)
                  go_simp
                  exact hK' _ _ ⟨fun _ => rfl, fun h => absurd h (by decide), Below.refl _ _⟩
                | 15, ho =>
                  obtain rfl := Option.some.inj ho
                  have e8' : a.tmps[127]? = some (.bool true) := hd 8 rfl rfl
                  have e14' : a.tmps[133]? = some (.pointer (some ⟨w.heap.size, 4, none⟩)) := hd 14 rfl rfl
                  clear hd ho hout hX
                  refine wpOp_step rfl (fun K' hK' => ?_)
                  obtain ⟨⟨q0, q1, q2, q3, q4, q5⟩, -⟩ := HX.out _ hu
                  go_simp
                  exact hK' _ _ ⟨fun _ => rfl, fun h => absurd h (by decide), Below.refl _ _⟩
                | 16, ho =>
                  obtain rfl := Option.some.inj ho
                  have e8' : a.tmps[127]? = some (.bool true) := hd 8 rfl rfl
                  have f2 : a.tmps[2]? = some (.pointer (some ⟨w.heap.size, 0, none⟩)) := (hout 2 (by decide)).trans HF2.out
                  clear hd ho hout hX
                  refine wpOp_step rfl (fun K' hK' => ?_)
                  go_simp
                  exact hK' _ _ ⟨fun _ => rfl, fun h => absurd h (by decide), Below.refl _ _⟩
                | 17, ho =>
                  obtain rfl := Option.some.inj ho
                  have e8' : a.tmps[127]? = some (.bool true) := hd 8 rfl rfl
                  have e16' : a.tmps[135]? = some (.pointer (some ⟨w.heap.size, 5, none⟩)) := hd 16 rfl rfl
                  clear hd ho hout hX
                  refine wpOp_step rfl (fun K' hK' => ?_)
                  obtain ⟨⟨q0, q1, q2, q3, q4, q5⟩, -⟩ := HX.out _ hu
                  go_simp
                  exact hK' _ _ ⟨fun _ => rfl, fun h => absurd h (by decide), Below.refl _ _⟩
                | 18, ho =>
                  obtain rfl := Option.some.inj ho
                  have e8' : a.tmps[127]? = some (.bool true) := hd 8 rfl rfl
                  have e9' : a.tmps[128]? = some (.pointer (some ⟨p6, 0, none⟩)) := hd 9 rfl rfl
                  have e11' : a.tmps[130]? = some (.slice a2 n2 c2) := hd 11 rfl rfl
                  have e13' : a.tmps[132]? = some (.slice a3 n3 c3) := hd 13 rfl rfl
                  have e15' : a.tmps[134]? = some (.string AB) := hd 15 rfl rfl
                  have e17' : a.tmps[136]? = some (.int .i64 ri) := hd 17 rfl rfl
                  clear hd ho hout hX
                  refine wpOp_step rfl (fun K' hK' => ?_)
                  go_simp
                  refine (HN6.out _ hu).mono ?_
                  rintro e w9 ⟨rfl, hb9⟩
                  exact hK' _ _ ⟨fun _ => rfl, fun h => absurd h (by decide), hb9⟩
                | 19, ho =>
                  obtain rfl := Option.some.inj ho
                  have e8' : a.tmps[127]? = some (.bool true) := hd 8 rfl rfl
                  have f16 : a.tmps[16]? = some (.pointer (some ⟨p8, 0, none⟩)) := (hout 16 (by decide)).trans HF16.out
                  clear hd ho hout hX
                  refine wpOp_step rfl (fun K' hK' => ?_)
                  go_simp
                  exact hK' _ _ ⟨fun _ => rfl, fun h => absurd h (by decide), Below.refl _ _⟩
                | 20, ho =>
                  obtain rfl := Option.some.inj ho
                  have e8' : a.tmps[127]? = some (.bool true) := hd 8 rfl rfl
                  have f2 : a.tmps[2]? = some (.pointer (some ⟨w.heap.size, 0, none⟩)) := (hout 2 (by decide)).trans HF2.out
                  clear hd ho hout hX
                  refine wpOp_step rfl (fun K' hK' => ?_)
                  go_simp
                  exact hK' _ _ ⟨fun _ => rfl, fun h => absurd h (by decide), Below.refl _ _⟩
                | 21, ho =>
                  obtain rfl := Option.some.inj ho
                  have e8' : a.tmps[127]? = some (.bool true) := hd 8 rfl rfl
                  have e20' : a.tmps[139]? = some (.pointer (some ⟨w.heap.size, 1, none⟩)) := hd 20 rfl rfl
                  clear hd ho hout hX
                  refine wpOp_step rfl (fun K' hK' => ?_)
                  obtain ⟨⟨q0, q1, q2, q3, q4, q5⟩, -⟩ := HX.out _ hu
                  go_simp
                  exact hK' _ _ ⟨fun _ => rfl, fun h => absurd h (by decide), Below.refl _ _⟩
                | 22, ho =>
                  obtain rfl := Option.some.inj ho
                  have e8' : a.tmps[127]? = some (.bool true) := hd 8 rfl rfl
                  have f2 : a.tmps[2]? = some (.pointer (some ⟨w.heap.size, 0, none⟩)) := (hout 2 (by decide)).trans HF2.out
                  clear hd ho hout hX
                  refine wpOp_step rfl (fun K' hK' => ?_)
                  go_simp
                  exact hK' _ _ ⟨fun _ => rfl, fun h => absurd h (by decide), Below.refl _ _⟩
                | 23, ho =>
                  obtain rfl := Option.some.inj ho
                  have e8' : a.tmps[127]? = some (.bool true) := hd 8 rfl rfl
                  have e22' : a.tmps[141]? = some (.pointer (some ⟨w.heap.size, 2, none⟩)) := hd 22 rfl rfl
                  clear hd ho hout hX
                  refine wpOp_step rfl (fun K' hK' => ?_)
                  obtain ⟨⟨q0, q1, q2, q3, q4, q5⟩, -⟩ := HX.out _ hu
                  go_simp
                  exact hK' _ _ ⟨fun _ => rfl, fun h => absurd h (by decide), Below.refl _ _⟩
                | 24, ho =>
                  obtain rfl := Option.some.inj ho
                  have e8' : a.tmps[127]? = some (.bool true) := hd 8 rfl rfl
                  have f2 : a.tmps[2]? = some (.pointer (some ⟨w.heap.size, 0, none⟩)) := (hout 2 (by decide)).trans HF2.out
                  clear hd ho hout hX
                  refine wpOp_step rfl (fun K' hK' => ?_)
                  go_simp
                  exact hK' _ _ ⟨fun _ => rfl, fun h => absurd h (by decide), Below.refl _ _⟩
                | 25, ho =>
                  obtain rfl := Option.some.inj ho
                  have e8' : a.tmps[127]? = some (.bool true) := hd 8 rfl rfl
                  have e24' : a.tmps[143]? = some (.pointer (some ⟨w.heap.size, 4, none⟩)) := hd 24 rfl rfl
                  clear hd ho hout hX
                  refine wpOp_step rfl (fun K' hK' => ?_)
                  obtain ⟨⟨q0, q1, q2, q3, q4, q5⟩, -⟩ := HX.out _ hu
                  go_simp
                  exact hK' _ _ ⟨fun _ => rfl, fun h => absurd h (by decide), Below.refl _ _⟩
                | 26, ho =>
                  obtain rfl := Option.some.inj ho
                  have e8' : a.tmps[127]? = some (.bool true) := hd 8 rfl rfl
                  have f2 : a.tmps[2]? = some (.pointer (some ⟨w.heap.size, 0, none⟩)) := (hout 2 (by decide)).trans HF2.out
                  clear hd ho hout hX
                  refine wpOp_step rfl (fun K' hK' => ?_)
                  go_simp
                  exact hK' _ _ ⟨fun _ => rfl, fun h => absurd h (by decide), Below.refl _ _⟩
                | 27, ho =>
                  obtain rfl := Option.some.inj ho
                  have e8' : a.tmps[127]? = some (.bool true) := hd 8 rfl rfl
                  have e26' : a.tmps[145]? = some (.pointer (some ⟨w.heap.size, 5, none⟩)) := hd 26 rfl rfl
                  clear hd ho hout hX
                  refine wpOp_step rfl (fun K' hK' => ?_)
                  obtain ⟨⟨q0, q1, q2, q3, q4, q5⟩, -⟩ := HX.out _ hu
                  go_simp
                  exact hK' _ _ ⟨fun _ => rfl, fun h => absurd h (by decide), Below.refl _ _⟩
                | 28, ho =>
                  obtain rfl := Option.some.inj ho
                  have e8' : a.tmps[127]? = some (.bool true) := hd 8 rfl rfl
                  have e19' : a.tmps[138]? = some (.pointer (some ⟨p8, 0, none⟩)) := hd 19 rfl rfl
                  have e21' : a.tmps[140]? = some (.slice a2 n2 c2) := hd 21 rfl rfl
                  have e23' : a.tmps[142]? = some (.slice a3 n3 c3) := hd 23 rfl rfl
                  have e25' : a.tmps[144]? = some (.string AB) := hd 25 rfl rfl
                  have e27' : a.tmps[146]? = some (.int .i64 ri) := hd 27 rfl rfl
                  clear hd ho hout hX
                  refine wpOp_step rfl (fun K' hK' => ?_)
                  go_simp
                  refine (HN8.out _ hu).mono ?_
                  rintro e w9 ⟨rfl, hb9⟩
                  exact hK' _ _ ⟨fun _ => rfl, fun h => absurd h (by decide), hb9⟩
                | 29, ho =>
                  obtain rfl := Option.some.inj ho
                  have e8' : a.tmps[127]? = some (.bool true) := hd 8 rfl rfl
                  have e18' : a.tmps[137]? = some (.bool A0) := hd 18 rfl rfl
                  have e28' : a.tmps[147]? = some (.bool A0) := hd 28 rfl rfl
                  clear hd ho hout hX
                  refine wpOp_step rfl (fun K' hK' => ?_)
                  go_simp
                  exact hK' _ _ ⟨fun _ => rfl, fun h => absurd h (by decide), Below.refl _ _⟩
                | 30, ho =>
                  obtain rfl := Option.some.inj ho
                  have e8' : a.tmps[127]? = some (.bool true) := hd 8 rfl rfl
                  have e29' : a.tmps[148]? = some (.bool true) := hd 29 rfl rfl
                  clear hd ho hout hX
                  refine wpOp_step rfl (fun K' hK' => ?_)
                  go_simp
                  exact hK' _ _ ⟨fun _ => rfl, fun h => absurd h (by decide), Below.refl _ _⟩
                | 31, ho =>
                  obtain rfl := Option.some.inj ho
                  have e30' : a.tmps[149]? = some (.bool true) := hd 30 rfl rfl
                  clear hd ho hout hX
                  refine wpOp_step rfl (fun K' hK' => ?_)
                  go_simp
                  exact hK' _ _ ⟨fun _ => rfl, fun h => absurd h (by decide), Below.refl _ _⟩
                | 32, ho =>
                  obtain rfl := Option.some.inj ho
                  have e31' : a.tmps[150]? = some (.bool true) := hd 31 rfl rfl
                  have f12 : a.tmps[12]? = some (.pointer (some ⟨p7, 0, none⟩)) := (hout 12 (by decide)).trans HF12.out
                  clear hd ho hout hX
                  refine wpOp_step rfl (fun K' hK' => ?_)
                  go_simp
                  exact hK' _ _ ⟨fun _ => rfl, fun h => absurd h (by decide), Below.refl _ _⟩
                | 33, ho =>
                  obtain rfl := Option.some.inj ho
                  have e31' : a.tmps[150]? = some (.bool true) := hd 31 rfl rfl
                  have f2 : a.tmps[2]? = some (.pointer (some ⟨w.heap.size, 0, none⟩)) := (hout 2 (by decide)).trans HF2.out
                  clear hd ho hout hX
                  refine wpOp_step rfl (fun K' hK' => ?_)
                  go_simp
                  exact hK' _ _ ⟨fun _ => rfl, fun h => absurd h (by decide), Below.refl _ _⟩
                | 34, ho =>
                  obtain rfl := Option.some.inj ho
                  have e31' : a.tmps[150]? = some (.bool true) := hd 31 rfl rfl
                  have e33' : a.tmps[152]? = some (.pointer (some ⟨w.heap.size, 1, none⟩)) := hd 33 rfl rfl
                  clear hd ho hout hX
                  refine wpOp_step rfl (fun K' hK' => ?_)
                  obtain ⟨⟨q0, q1, q2, q3, q4, q5⟩, -⟩ := HX.out _ hu
                  go_simp
                  exact hK' _ _ ⟨fun _ => rfl, fun h => absurd h (by decide), Below.refl _ _⟩
                | 35, ho =>
                  obtain rfl := Option.some.inj ho
                  have e31' : a.tmps[150]? = some (.bool true) := hd 31 rfl rfl
                  have f2 : a.tmps[2]? = some (.pointer (some ⟨w.heap.size, 0, none⟩)) := (hout 2 (by decide)).trans HF2.out
                  clear hd ho hout hX
                  refine wpOp_step rfl (fun K' hK' => ?_)
                  go_simp
                  exact hK' _ _ ⟨fun _ => rfl, fun h => absurd h (by decide), Below.refl _ _⟩
                | 36, ho =>
                  obtain rfl := Option.some.inj ho
                  have e31' : a.tmps[150]? = some (.bool true) := hd 31 rfl rfl
                  have e35' : a.tmps[154]? = some (.pointer (some ⟨w.heap.size, 2, none⟩)) := hd 35 rfl rfl
                  clear hd ho hout hX
                  refine wpOp_step rfl (fun K' hK' => ?_)
                  obtain ⟨⟨q0, q1, q2, q3, q4, q5⟩, -⟩ := HX.out _ hu
                  go_simp
                  exact hK' _ _ ⟨fun _ => rfl, fun h => absurd h (by decide), Below.refl _ _⟩
                | 37, ho =>
                  obtain rfl := Option.some.inj ho
                  have e31' : a.tmps[150]? = some (.bool true) := hd 31 rfl rfl
                  have f2 : a.tmps[2]? = some (.pointer (some ⟨w.heap.size, 0, none⟩)) := (hout 2 (by decide)).trans HF2.out
                  clear hd ho hout hX
                  refine wpOp_step rfl (fun K' hK' => ?_)
                  go_simp
                  exact hK' _ _ ⟨fun _ => rfl, fun h => absurd h (by decide), Below.refl _ _⟩
                | 38, ho =>
                  obtain rfl := Option.some.inj ho
                  have e31' : a.tmps[150]? = some (.bool true) := hd 31 rfl rfl
                  have e37' : a.tmps[156]? = some (.pointer (some ⟨w.heap.size, 4, none⟩)) := hd 37 rfl rfl
                  clear hd ho hout hX
                  refine wpOp_step rfl (fun K' hK' => ?_)
                  obtain ⟨⟨q0, q1, q2, q3, q4, q5⟩, -⟩ := HX.out _ hu
                  go_simp
                  exact hK' _ _ ⟨fun _ => rfl, fun h => absurd h (by decide), Below.refl _ _⟩
                | 39, ho =>
                  obtain rfl := Option.some.inj ho
                  have e31' : a.tmps[150]? = some (.bool true) := hd 31 rfl rfl
                  have f2 : a.tmps[2]? = some (.pointer (some ⟨w.heap.size, 0, none⟩)) := (hout 2 (by decide)).trans HF2.out
                  clear hd ho hout hX
                  refine wpOp_step rfl (fun K' hK' => ?_)
                  go_simp
                  exact hK' _ _ ⟨fun _ => rfl, fun h => absurd h (by decide), Below.refl _ _⟩
                | 40, ho =>
                  obtain rfl := Option.some.inj ho
                  have e31' : a.tmps[150]? = some (.bool true) := hd 31 rfl rfl
                  have e39' : a.tmps[158]? = some (.pointer (some ⟨w.heap.size, 5, none⟩)) := hd 39 rfl rfl
                  clear hd ho hout hX
                  refine wpOp_step rfl (fun K' hK' => ?_)
                  obtain ⟨⟨q0, q1, q2, q3, q4, q5⟩, -⟩ := HX.out _ hu
                  go_simp
                  exact hK' _ _ ⟨fun _ => rfl, fun h => absurd h (by decide), Below.refl _ _⟩
                | 41, ho =>
                  obtain rfl := Option.some.inj ho
                  have e31' : a.tmps[150]? = some (.bool true) := hd 31 rfl rfl
                  have e32' : a.tmps[151]? = some (.pointer (some ⟨p7, 0, none⟩)) := hd 32 rfl rfl
                  have e34' : a.tmps[153]? = some (.slice a2 n2 c2) := hd 34 rfl rfl
                  have e36' : a.tmps[155]? = some (.slice a3 n3 c3) := hd 36 rfl rfl
                  have e38' : a.tmps[157]? = some (.string AB) := hd 38 rfl rfl
                  have e40' : a.tmps[159]? = some (.int .i64 ri) := hd 40 rfl rfl
                  clear hd ho hout hX
                  refine wpOp_step rfl (fun K' hK' => ?_)
                  go_simp
                  refine (HN7.out _ hu).mono ?_
                  rintro e w9 ⟨rfl, hb9⟩
                  exact hK' _ _ ⟨fun _ => rfl, fun h => absurd h (by decide), hb9⟩
                | 42, ho =>
                  obtain rfl := Option.some.inj ho
                  have e31' : a.tmps[150]? = some (.bool true) := hd 31 rfl rfl
                  have f15 : a.tmps[15]? = some (.bool false) := (hout 15 (by decide)).trans HF15.out
                  clear hd ho hout hX
                  refine wpOp_step rfl (fun K' hK' => ?_)
                  go_simp
                  exact hK' _ _ ⟨fun _ => rfl, fun h => absurd h (by decide), Below.refl _ _⟩
                | 43, ho =>
                  obtain rfl := Option.some.inj ho
                  have e31' : a.tmps[150]? = some (.bool true) := hd 31 rfl rfl
                  have e41' : a.tmps[160]? = some (.bool false) := hd 41 rfl rfl
                  have e42' : a.tmps[161]? = some (.bool false) := hd 42 rfl rfl
                  clear hd ho hout hX
                  refine wpOp_step rfl (fun K' hK' => ?_)
                  go_simp
                  exact hK' _ _ ⟨fun _ => rfl, fun h => absurd h (by decide), Below.refl _ _⟩
                | 44, ho =>
                  obtain rfl := Option.some.inj ho
                  have e31' : a.tmps[150]? = some (.bool true) := hd 31 rfl rfl
                  have e43' : a.tmps[162]? = some (.bool true) := hd 43 rfl rfl
                  clear hd ho hout hX
                  refine wpOp_step rfl (fun K' hK' => ?_)
                  go_simp
                  exact hK' _ _ ⟨fun _ => rfl, fun h => absurd h (by decide), Below.refl _ _⟩
                | 45, ho =>
                  obtain rfl := Option.some.inj ho
                  have e44' : a.tmps[163]? = some (.bool true) := hd 44 rfl rfl
                  clear hd ho hout hX
                  refine wpOp_step rfl (fun K' hK' => ?_)
                  go_simp
                  exact hK' _ _ ⟨fun _ => rfl, fun h => absurd h (by decide), Below.refl _ _⟩
                | i + 46, ho => cases ho
              case fin =>
                intro v u hbu hv hg
                have hvv := setD_congr F.tmps (fun i => if i = 45 then 4 else 119 + i) 46 v (fun i => ([.bool true, .bool true, .bool false, .bool true, .bool true, undef, .bool true, .bool true, .bool true, .pointer (some ⟨p6, 0, none⟩), .pointer (some ⟨w.heap.size, 1, none⟩), .slice a2 n2 c2, .pointer (some ⟨w.heap.size, 2, none⟩), .slice a3 n3 c3, .pointer (some ⟨w.heap.size, 4, none⟩), .string AB, .pointer (some ⟨w.heap.size, 5, none⟩), .int .i64 ri, .bool A0, .pointer (some ⟨p8, 0, none⟩), .pointer (some ⟨w.heap.size, 1, none⟩), .slice a2 n2 c2, .pointer (some ⟨w.heap.size, 2, none⟩), .slice a3 n3 c3, .pointer (some ⟨w.heap.size, 4, none⟩), .string AB, .pointer (some ⟨w.heap.size, 5, none⟩), .int .i64 ri, .bool A0, .bool true, .bool true, .bool true, .pointer (some ⟨p7, 0, none⟩), .pointer (some ⟨w.heap.size, 1, none⟩), .slice a2 n2 c2, .pointer (some ⟨w.heap.size, 2, none⟩), .slice a3 n3 c3, .pointer (some ⟨w.heap.size, 4, none⟩), .string AB, .pointer (some ⟨w.heap.size, 5, none⟩), .int .i64 ri, .bool false, .bool false, .bool true, .bool true, .bool true] : List Value).getD i undef) (fun i hi => by
                  rw [List.getD_eq_getElem?_getD, hv i hi rfl]; rfl)
                rw [hvv, ← HF.out]
                have hend := (HX.out _ hbu).2
                clear hvv hv HF HSZ hg hbu HF2 HF10 HF12 HF14 HF15 HF16
                simp only [setD, List.getD_cons_zero, List.getD_cons_succ, Nat.reduceAdd, List.setIfInBounds_toArray, List.set_cons_succ, List.set_cons_zero, if_true, if_false, Nat.reduceEqDiff]
                go_wp2_with fail
                all_goals (go_ret; exact ⟨rfl, hend⟩)
            case true =>
              obtain rfl := HMM.out rfl
              generalize hF : (Act.mk _ _) = F
              have HF2 : Hid (F.tmps[2]? = some (.pointer (some ⟨w.heap.size, 0, none⟩))) := Lib.hid (by rw [← hF]; rfl)
              have HF10 : Hid (F.tmps[10]? = some (.pointer (some ⟨p6, 0, none⟩))) := Lib.hid (by rw [← hF]; rfl)
              have HF12 : Hid (F.tmps[12]? = some (.pointer (some ⟨p7, 0, none⟩))) := Lib.hid (by rw [← hF]; rfl)
              have HF14 : Hid (F.tmps[14]? = some (.bool true)) := Lib.hid (by rw [← hF]; rfl)
              have HF15 : Hid (F.tmps[15]? = some (.bool true)) := Lib.hid (by rw [← hF]; rfl)
              have HF16 : Hid (F.tmps[16]? = some (.pointer (some ⟨p8, 0, none⟩))) := Lib.hid (by rw [← hF]; rfl)
              have HSZ : Hid (injD (fun i => if i = 45 then 4 else 119 + i) 46 F.tmps.size = true) := Lib.hid (by rw [show F.tmps.size = 164 by rw [← hF]; rfl]; decide +kernel)
              have HF := Lib.hid hF
              clear hF
              refine wp_region_some (by kernel_rfl) F (fun i => if i = 45 then 4 else 119 + i) [.bool true, .bool true, .bool true, .bool false, .bool false, .bool true, .bool true, .bool true, .bool true, .pointer (some ⟨p6, 0, none⟩), .pointer (some ⟨w.heap.size, 1, none⟩), .slice a2 n2 c2, .pointer (some ⟨w.heap.size, 2, none⟩), .slice a3 n3 c3, .pointer (some ⟨w.heap.size, 4, none⟩), .string AB, .pointer (some ⟨w.heap.size, 5, none⟩), .int .i64 ri, .bool A0, .pointer (some ⟨p8, 0, none⟩), .pointer (some ⟨w.heap.size, 1, none⟩), .slice a2 n2 c2, .pointer (some ⟨w.heap.size, 2, none⟩), .slice a3 n3 c3, .pointer (some ⟨w.heap.size, 4, none⟩), .string AB, .pointer (some ⟨w.heap.size, 5, none⟩), .int .i64 ri, .bool A0, .bool true, .bool true, .bool true, .pointer (some ⟨p7, 0, none⟩), .pointer (some ⟨w.heap.size, 1, none⟩), .slice a2 n2 c2, .pointer (some ⟨w.heap.size, 2, none⟩), .slice a3 n3 c3, .pointer (some ⟨w.heap.size, 4, none⟩), .string AB, .pointer (some ⟨w.heap.size, 5, none⟩), .int .i64 ri, .bool true, .bool true, .bool true, .bool true, .bool true] (fun _ => false) (fun _ _ _ => True) w8 46 (fun _ _ _ _ _ _ => trivial) rfl rfl HSZ.out (by kernel_rfl) (by kernel_rfl) ?step ?fin
              case step =>
                intro i o ho a X u hu hout hd hX
                match i, ho with
                | 0, ho =>
                  obtain rfl := Option.some.inj ho
                  clear hd ho hout hX
                  refine wpOp_step rfl (fun K' hK' => ?_)
                  go_simp
                  refine (HA.out _).mono ?_
                  rintro e w9 ⟨rfl, hb9⟩
                  exact hK' _ _ ⟨fun _ => rfl, fun h => absurd h (by decide), hb9⟩
                | 1, ho =>
                  obtain rfl := Option.some.inj ho
                  have e0' : a.tmps[119]? = some (.bool true) := hd 0 rfl rfl
                  clear hd ho hout hX
                  refine wpOp_step rfl (fun K' hK' => ?_)
                  go_simp
                  exact hK' _ _ ⟨fun _ => rfl, fun h => absurd h (by decide), Below.refl _ _⟩
                | 2, ho =>
                  obtain rfl := Option.some.inj ho
                  have e1' : a.tmps[120]? = some (.bool true) := hd 1 rfl rfl
                  have f15 : a.tmps[15]? = some (.bool true) := (hout 15 (by decide)).trans HF15.out
                  clear hd ho hout hX
                  refine wpOp_step rfl (fun K' hK' => ?_)
                  go_simp
                  exact hK' _ _ ⟨fun _ => rfl, fun h => absurd h (by decide), Below.refl _ _⟩
                | 3, ho =>
                  obtain rfl := Option.some.inj ho
                  have e1' : a.tmps[120]? = some (.bool true) := hd 1 rfl rfl
                  have e2' : a.tmps[121]? = some (.bool true) := hd 2 rfl rfl
                  clear hd ho hout hX
                  refine wpOp_step rfl (fun K' hK' => ?_)
                  go_simp
                  exact hK' _ _ ⟨fun _ => rfl, fun h => absurd h (by decide), Below.refl _ _⟩
                | 4, ho =>
                  obtain rfl := Option.some.inj ho
                  have e1' : a.tmps[120]? = some (.bool true) := hd 1 rfl rfl
                  have e3' : a.tmps[122]? = some (.bool false) := hd 3 rfl rfl
                  clear hd ho hout hX
                  refine wpOp_step rfl (fun K' hK' => ?_)
                  go_simp
                  exact hK' _ _ ⟨fun _ => rfl, fun h => absurd h (by decide), Below.refl _ _⟩
                | 5, ho =>
                  obtain rfl := Option.some.inj ho
                  have e4' : a.tmps[123]? = some (.bool false) := hd 4 rfl rfl
                  have f14 : a.tmps[14]? = some (.bool true) := (hout 14 (by decide)).trans HF14.out
                  clear hd ho hout hX
                  refine wpOp_step rfl (fun K' hK' => ?_)
                  go_simp
                  exact hK' _ _ ⟨fun _ => rfl, fun h => absurd h (by decide), Below.refl _ _⟩
                | 6, ho =>
                  obtain rfl := Option.some.inj ho
                  have e1' : a.tmps[120]? = some (.bool true) := hd 1 rfl rfl
                  have e4' : a.tmps[123]? = some (.bool false) := hd 4 rfl rfl
                  have e5' : a.tmps[124]? = some (.bool true) := hd 5 rfl rfl
                  clear hd ho hout hX
                  refine wpOp_step rfl (fun K' hK' => ?_)
                  go_simp
                  exact hK' _ _ ⟨fun _ => rfl, fun h => absurd h (by decide), Below.refl _ _⟩
                | 7, ho =>
                  obtain rfl := Option.some.inj ho
                  have e1' : a.tmps[120]? = some (.bool true) := hd 1 rfl rfl
                  have e6' : a.tmps[125]? = some (.bool true) := hd 6 rfl rfl
                  clear hd ho hout hX
                  refine wpOp_step rfl (fun K' hK' => ?_)
                  go_simp
                  exact hK' _ _ ⟨fun _ => rfl, fun h => absurd h (by decide), Below.refl _ _⟩
                | 8, ho =>
                  obtain rfl := Option.some.inj ho
                  have e7' : a.tmps[126]? = some (.bool true) := hd 7 rfl rfl
                  clear hd ho hout hX
                  refine wpOp_step rfl (fun K' hK' => ?_)
                  go_simp
                  exact hK' _ _ ⟨fun _ => rfl, fun h => absurd h (by decide), Below.refl _ _⟩
                | 9, ho =>
                  obtain rfl := Option.some.inj ho
                  have e8' : a.tmps[127]? = some (.bool true) := hd 8 rfl rfl
                  have f10 : a.tmps[10]? = some (.pointer (some ⟨p6, 0, none⟩)) := (hout 10 (by decide)).trans HF10.out
                  clear hd ho hout hX
                  refine wpOp_step rfl (fun K' hK' => ?_)
                  go_simp
                  exact hK' _ _ ⟨fun _ => rfl, fun h => absurd h (by decide), Below.refl _ _⟩
                | 10, ho =>
                  obtain rfl := Option.some.inj ho
                  have e8' : a.tmps[127]? = some (.bool true) := hd 8 rfl rfl
                  have f2 : a.tmps[2]? = some (.pointer (some ⟨w.heap.size, 0, none⟩)) := (hout 2 (by decide)).trans HF2.out
                  clear hd ho hout hX
                  refine wpOp_step rfl (fun K' hK' => ?_)
                  go_simp
                  exact hK' _ _ ⟨fun _ => rfl, fun h => absurd h (by decide), Below.refl _ _⟩
                | 11, ho =>
                  obtain rfl := Option.some.inj ho
                  have e8' : a.tmps[127]? = some (.bool true) := hd 8 rfl rfl
                  have e10' : a.tmps[129]? = some (.pointer (some ⟨w.heap.size, 1, none⟩)) := hd 10 rfl rfl
                  clear hd ho hout hX
                  refine wpOp_step rfl (fun K' hK' => ?_)
                  obtain ⟨⟨q0, q1, q2, q3, q4, q5⟩, -⟩ := HX.out _ hu
                  go_simp
                  exact hK' _ _ ⟨fun _ => rfl, fun h => absurd h (by decide), Below.refl _ _⟩
                | 12, ho =>
                  obtain rfl := Option.some.inj ho
                  have e8' : a.tmps[127]? = some (.bool true) := hd 8 rfl rfl
                  have f2 : a.tmps[2]? = some (.pointer (some ⟨w.heap.size, 0, none⟩)) := (hout 2 (by decide)).trans HF2.out
                  clear hd ho hout hX
                  refine wpOp_step rfl (fun K' hK' => ?_)
                  go_simp
                  exact hK' _ _ ⟨fun _ => rfl, fun h => absurd h (by decide), Below.refl _ _⟩
                | 13, ho =>
                  obtain rfl := Option.some.inj ho
                  have e8' : a.tmps[127]? = some (.bool true) := hd 8 rfl rfl
                  have e12' : a.tmps[131]? = some (.pointer (some ⟨w.heap.size, 2, none⟩)) := hd 12 rfl rfl
                  clear hd ho hout hX
                  refine wpOp_step rfl (fun K' hK' => ?_)
                  obtain ⟨⟨q0, q1, q2, q3, q4, q5⟩, -⟩ := HX.out _ hu
                  go_simp
                  exact hK' _ _ ⟨fun _ => rfl, fun h => absurd h (by decide), Below.refl _ _⟩
                | 14, ho =>
                  obtain rfl := Option.some.inj ho
                  have e8' : a.tmps[127]? = some (.bool true) := hd 8 rfl rfl
                  have f2 : a.tmps[2]? = some (.pointer (some ⟨w.heap.size, 0, none⟩)) := (hout 2 (by decide)).trans HF2.out
                  clear hd ho hout hX
                  refine wpOp_step rfl (fun K' hK' => ?_)
                  go_simp
                  exact hK' _ _ ⟨fun _ => rfl, fun h => absurd h (by decide), Below.refl _ _⟩
                | 15, ho =>
                  obtain rfl := Option.some.inj ho
                  have e8' : a.tmps[127]? = some (.bool true) := hd 8 rfl rfl
                  have e14' : a.tmps[133]? = some (.pointer (some ⟨w.heap.size, 4, none⟩)) := hd 14 rfl rfl
                  clear hd ho hout hX
                  refine wpOp_step rfl (fun K' hK' => ?_)
                  obtain ⟨⟨q0, q1, q2, q3, q4, q5⟩, -⟩ := HX.out _ hu
                  go_simp
                  exact hK' _ _ ⟨fun _ => rfl, fun h => absurd h (by decide), Below.refl _ _⟩
                | 16, ho =>
                  obtain rfl := Option.some.inj ho
                  have e8' : a.tmps[127]? = some (.bool true) := hd 8 rfl rfl
                  have f2 : a.tmps[2]? = some (.pointer (some ⟨w.heap.size, 0, none⟩)) := (hout 2 (by decide)).trans HF2.out
                  clear hd ho hout hX
                  refine wpOp_step rfl (fun K' hK' => ?_)
                  go_simp
                  exact hK' _ _ ⟨fun _ => rfl, fun h => absurd h (by decide), Below.refl _ _⟩
                | 17, ho =>
                  obtain rfl := Option.some.inj ho
                  have e8' : a.tmps[127]? = some (.bool true) := hd 8 rfl rfl
                  have e16' : a.tmps[135]? = some (.pointer (some ⟨w.heap.size, 5, none⟩)) := hd 16 rfl rfl
                  clear hd ho hout hX
                  refine wpOp_step rfl (fun K' hK' => ?_)
                  obtain ⟨⟨q0, q1, q2, q3, q4, q5⟩, -⟩ := HX.out _ hu
                  go_simp
                  exact hK' _ _ ⟨fun _ => rfl, fun h => absurd h (by decide), Below.refl _ _⟩
                | 18, ho =>
                  obtain rfl := Option.some.inj ho
                  have e8' : a.tmps[127]? = some (.bool true) := hd 8 rfl rfl
                  have e9' : a.tmps[128]? = some (.pointer (some ⟨p6, 0, none⟩)) := hd 9 rfl rfl
                  have e11' : a.tmps[130]? = some (.slice a2 n2 c2) := hd 11 rfl rfl
                  have e13' : a.tmps[132]? = some (.slice a3 n3 c3) := hd 13 rfl rfl
                  have e15' : a.tmps[134]? = some (.string AB) := hd 15 rfl rfl
                  have e17' : a.tmps[136]? = some (.int .i64 ri) := hd 17 rfl rfl
                  clear hd ho hout hX
                  refine wpOp_step rfl (fun K' hK' => ?_)
                  go_simp
                  refine (HN6.out _ hu).mono ?_
                  rintro e w9 ⟨rfl, hb9⟩
                  exact hK' _ _ ⟨fun _ => rfl, fun h => absurd h (by decide), hb9⟩
                | 19, ho =>
                  obtain rfl := Option.some.inj ho
                  have e8' : a.tmps[127]? = some (.bool true) := hd 8 rfl rfl
                  have f16 : a.tmps[16]? = some (.pointer (some ⟨p8, 0, none⟩)) := (hout 16 (by decide)).trans HF16.out
                  clear hd ho hout hX
                  refine wpOp_step rfl (fun K' hK' => ?_)
                  go_simp
                  exact hK' _ _ ⟨fun _ => rfl, fun h => absurd h (by decide), Below.refl _ _⟩
                | 20, ho =>
                  obtain rfl := Option.some.inj ho
                  have e8' : a.tmps[127]? = some (.bool true) := hd 8 rfl rfl
                  have f2 : a.tmps[2]? = some (.pointer (some ⟨w.heap.size, 0, none⟩)) := (hout 2 (by decide)).trans HF2.out
                  clear hd ho hout hX
                  refine wpOp_step rfl (fun K' hK' => ?_)
                  go_simp
                  exact hK' _ _ ⟨fun _ => rfl, fun h => absurd h (by decide), Below.refl _ _⟩
                | 21, ho =>
                  obtain rfl := Option.some.inj ho
                  have e8' : a.tmps[127]? = some (.bool true) := hd 8 rfl rfl
                  have e20' : a.tmps[139]? = some (.pointer (some ⟨w.heap.size, 1, none⟩)) := hd 20 rfl rfl
                  clear hd ho hout hX
                  refine wpOp_step rfl (fun K' hK' => ?_)
                  obtain ⟨⟨q0, q1, q2, q3, q4, q5⟩, -⟩ := HX.out _ hu
                  go_simp
                  exact hK' _ _ ⟨fun _ => rfl, fun h => absurd h (by decide), Below.refl _ _⟩
                | 22, ho =>
                  obtain rfl := Option.some.inj ho
                  have e8' : a.tmps[127]? = some (.bool true) := hd 8 rfl rfl
                  have f2 : a.tmps[2]? = some (.pointer (some ⟨w.heap.size, 0, none⟩)) := (hout 2 (by decide)).trans HF2.out
                  clear hd ho hout hX
                  refine wpOp_step rfl (fun K' hK' => ?_)
                  go_simp
                  exact hK' _ _ ⟨fun _ => rfl, fun h => absurd h (by decide), Below.refl _ _⟩
                | 23, ho =>
                  obtain rfl := Option.some.inj ho
                  have e8' : a.tmps[127]? = some (.bool true) := hd 8 rfl rfl
                  have e22' : a.tmps[141]? = some (.pointer (some ⟨w.heap.size, 2, none⟩)) := hd 22 rfl rfl
                  clear hd ho hout hX
                  refine wpOp_step rfl (fun K' hK' => ?_)
                  obtain ⟨⟨q0, q1, q2, q3, q4, q5⟩, -⟩ := HX.out _ hu
                  go_simp
                  exact hK' _ _ ⟨fun _ => rfl, fun h => absurd h (by decide), Below.refl _ _⟩
                | 24, ho =>
                  obtain rfl := Option.some.inj ho
                  have e8' : a.tmps[127]? = some (.bool true) := hd 8 rfl rfl
                  have f2 : a.tmps[2]? = some (.pointer (some ⟨w.heap.size, 0, none⟩)) := (hout 2 (by decide)).trans HF2.out
                  clear hd ho hout hX
                  refine wpOp_step rfl (fun K' hK' => ?_)
                  go_simp
                  exact hK' _ _ ⟨fun _ => rfl, fun h => absurd h (by decide), Below.refl _ _⟩
                | 25, ho =>
                  obtain rfl := Option.some.inj ho
                  have e8' : a.tmps[127]? = some (.bool true) := hd 8 rfl rfl
                  have e24' : a.tmps[143]? = some (.pointer (some ⟨w.heap.size, 4, none⟩)) := hd 24 rfl rfl
                  clear hd ho hout hX
                  refine wpOp_step rfl (fun K' hK' => ?_)
                  obtain ⟨⟨q0, q1, q2, q3, q4, q5⟩, -⟩ := HX.out _ hu
                  go_simp
                  exact hK' _ _ ⟨fun _ => rfl, fun h => absurd h (by decide), Below.refl _ _⟩
                | 26, ho =>
                  obtain rfl := Option.some.inj ho
                  have e8' : a.tmps[127]? = some (.bool true) := hd 8 rfl rfl
                  have f2 : a.tmps[2]? = some (.pointer (some ⟨w.heap.size, 0, none⟩)) := (hout 2 (by decide)).trans HF2.out
                  clear hd ho hout hX
                  refine wpOp_step rfl (fun K' hK' => ?_)
                  go_simp
                  exact hK' _ _ ⟨fun _ => rfl, fun h => absurd h (by decide), Below.refl _ _⟩
                | 27, ho =>
                  obtain rfl := Option.some.inj ho
                  have e8' : a.tmps[127]? = some (.bool true) := hd 8 rfl rfl
                  have e26' : a.tmps[145]? = some (.pointer (some ⟨w.heap.size, 5, none⟩)) := hd 26 rfl rfl
                  clear hd ho hout hX
                  refine wpOp_step rfl (fun K' hK' => ?_)
                  obtain ⟨⟨q0, q1, q2, q3, q4, q5⟩, -⟩ := HX.out _ hu
                  go_simp
                  exact hK' _ _ ⟨fun _ => rfl, fun h => absurd h (by decide), Below.refl _ _⟩
                | 28, ho =>
                  obtain rfl := Option.some.inj ho
                  have e8' : a.tmps[127]? = some (.bool true) := hd 8 rfl rfl
                  have e19' : a.tmps[138]? = some (.pointer (some ⟨p8, 0, none⟩)) := hd 19 rfl rfl
                  have e21' : a.tmps[140]? = some (.slice a2 n2 c2) := hd 21 rfl rfl
                  have e23' : a.tmps[142]? = some (.slice a3 n3 c3) := hd 23 rfl rfl
                  have e25' : a.tmps[144]? = some (.string AB) := hd 25 rfl rfl
                  have e27' : a.tmps[146]? = some (.int .i64 ri) := hd 27 rfl rfl
                  clear hd ho hout hX
                  refine wpOp_step rfl (fun K' hK' => ?_)
                  go_simp
                  refine (HN8.out _ hu).mono ?_
                  rintro e w9 ⟨rfl, hb9⟩
                  exact hK' _ _ ⟨fun _ => rfl, fun h => absurd h (by decide), hb9⟩
                | 29, ho =>
                  obtain rfl := Option.some.inj ho
                  have e8' : a.tmps[127]? = some (.bool true) := hd 8 rfl rfl
                  have e18' : a.tmps[137]? = some (.bool A0) := hd 18 rfl rfl
                  have e28' : a.tmps[147]? = some (.bool A0) := hd 28 rfl rfl
                  clear hd ho hout hX
                  refine wpOp_step rfl (fun K' hK' => ?_)
                  go_simp
                  exact hK' _ _ ⟨fun _ => rfl, fun h => absurd h (by decide), Below.refl _ _⟩
                | 30, ho =>
                  obtain rfl := Option.some.inj ho
                  have e8' : a.tmps[127]? = some (.bool true) := hd 8 rfl rfl
                  have e29' : a.tmps[148]? = some (.bool true) := hd 29 rfl rfl
                  clear hd ho hout hX
                  refine wpOp_step rfl (fun K' hK' => ?_)
                  go_simp
                  exact hK' _ _ ⟨fun _ => rfl, fun h => absurd h (by decide), Below.refl _ _⟩
                | 31, ho =>
                  obtain rfl := Option.some.inj ho
                  have e30' : a.tmps[149]? = some (.bool true) := hd 30 rfl rfl
                  clear hd ho hout hX
                  refine wpOp_step rfl (fun K' hK' => ?_)
                  go_simp
                  exact hK' _ _ ⟨fun _ => rfl, fun h => absurd h (by decide), Below.refl _ _⟩
                | 32, ho =>
                  obtain rfl := Option.some.inj ho
                  have e31' : a.tmps[150]? = some (.bool true) := hd 31 rfl rfl
                  have f12 : a.tmps[12]? = some (.pointer (some ⟨p7, 0, none⟩)) := (hout 12 (by decide)).trans HF12.out
                  clear hd ho hout hX
                  refine wpOp_step rfl (fun K' hK' => ?_)
                  go_simp
                  exact hK' _ _ ⟨fun _ => rfl, fun h => absurd h (by decide), Below.refl _ _⟩
                | 33, ho =>
                  obtain rfl := Option.some.inj ho
                  have e31' : a.tmps[150]? = some (.bool true) := hd 31 rfl rfl
                  have f2 : a.tmps[2]? = some (.pointer (some ⟨w.heap.size, 0, none⟩)) := (hout 2 (by decide)).trans HF2.out
                  clear hd ho hout hX
                  refine wpOp_step rfl (fun K' hK' => ?_)
                  go_simp
                  exact hK' _ _ ⟨fun _ => rfl, fun h => absurd h (by decide), Below.refl _ _⟩
                | 34, ho =>
                  obtain rfl := Option.some.inj ho
                  have e31' : a.tmps[150]? = some (.bool true) := hd 31 rfl rfl
                  have e33' : a.tmps[152]? = some (.pointer (some ⟨w.heap.size, 1, none⟩)) := hd 33 rfl rfl
                  clear hd ho hout hX
                  refine wpOp_step rfl (fun K' hK' => ?_)
                  obtain ⟨⟨q0, q1, q2, q3, q4, q5⟩, -⟩ := HX.out _ hu
                  go_simp
                  exact hK' _ _ ⟨fun _ => rfl, fun h => absurd h (by decide), Below.refl _ _⟩
                | 35, ho =>
                  obtain rfl := Option.some.inj ho
                  have e31' : a.tmps[150]? = some (.bool true) := hd 31 rfl rfl
                  have f2 : a.tmps[2]? = some (.pointer (some ⟨w.heap.size, 0, none⟩)) := (hout 2 (by decide)).trans HF2.out
                  clear hd ho hout hX
                  refine wpOp_step rfl (fun K' hK' => ?_)
                  go_simp
                  exact hK' _ _ ⟨fun _ => rfl, fun h => absurd h (by decide), Below.refl _ _⟩
                | 36, ho =>
                  obtain rfl := Option.some.inj ho
                  have e31' : a.tmps[150]? = some (.bool true) := hd 31 rfl rfl
                  have e35' : a.tmps[154]? = some (.pointer (some ⟨w.heap.size, 2, none⟩)) := hd 35 rfl rfl
                  clear hd ho hout hX
                  refine wpOp_step rfl (fun K' hK' => ?_)
                  obtain ⟨⟨q0, q1, q2, q3, q4, q5⟩, -⟩ := HX.out _ hu
                  go_simp
                  exact hK' _ _ ⟨fun _ => rfl, fun h => absurd h (by decide), Below.refl _ _⟩
                | 37, ho =>
                  obtain rfl := Option.some.inj ho
                  have e31' : a.tmps[150]? = some (.bool true) := hd 31 rfl rfl
                  have f2 : a.tmps[2]? = some (.pointer (some ⟨w.heap.size, 0, none⟩)) := (hout 2 (by decide)).trans HF2.out
                  clear hd ho hout hX
                  refine wpOp_step rfl (fun K' hK' => ?_)
                  go_simp
                  exact hK' _ _ ⟨fun _ => rfl, fun h => absurd h (by decide), Below.refl _ _⟩
                | 38, ho =>
                  obtain rfl := Option.some.inj ho
                  have e31' : a.tmps[150]? = some (.bool true) := hd 31 rfl rfl
                  have e37' : a.tmps[156]? = some (.pointer (some ⟨w.heap.size, 4, none⟩)) := hd 37 rfl rfl
                  clear hd ho hout hX
                  refine wpOp_step rfl (fun K' hK' => ?_)
                  obtain ⟨⟨q0, q1, q2, q3, q4, q5⟩, -⟩ := HX.out _ hu
                  go_simp
                  exact hK' _ _ ⟨fun _ => rfl, fun h => absurd h (by decide), Below.refl _ _⟩
                | 39, ho =>
                  obtain rfl := Option.some.inj ho
                  have e31' : a.tmps[150]? = some (.bool true) := hd 31 rfl rfl
                  have f2 : a.tmps[2]? = some (.pointer (some ⟨w.heap.size, 0, none⟩)) := (hout 2 (by decide)).trans HF2.out
                  clear hd ho hout hX
                  refine wpOp_step rfl (fun K' hK' => ?_)
                  go_simp
                  exact hK' _ _ ⟨fun _ => rfl, fun h => absurd h (by decide), Below.refl _ _⟩
                | 40, ho =>
                  obtain rfl := Option.some.inj ho
                  have e31' : a.tmps[150]? = some (.bool true) := hd 31 rfl rfl
                  have e39' : a.tmps[158]? = some (.pointer (some ⟨w.heap.size, 5, none⟩)) := hd 39 rfl rfl
                  clear hd ho hout hX
                  refine wpOp_step rfl (fun K' hK' => ?_)
                  obtain ⟨⟨q0, q1, q2, q3, q4, q5⟩, -⟩ := HX.out _ hu
                  go_simp
                  exact hK' _ _ ⟨fun _ => rfl, fun h => absurd h (by decide), Below.refl _ _⟩
                | 41, ho =>
                  obtain rfl := Option.some.inj ho
                  have e31' : a.tmps[150]? = some (.bool true) := hd 31 rfl rfl
                  have e32' : a.tmps[151]? = some (.pointer (some ⟨p7, 0, none⟩)) := hd 32 rfl rfl
                  have e34' : a.tmps[153]? = some (.slice a2 n2 c2) := hd 34 rfl rfl
                  have e36' : a.tmps[155]? = some (.slice a3 n3 c3) := hd 36 rfl rfl
                  have e38' : a.tmps[157]? = some (.string AB) := hd 38 rfl rfl
                  have e40' : a.tmps[159]? = some (.int .i64 ri) := hd 40 rfl rfl
                  clear hd ho hout hX
                  refine wpOp_step rfl (fun K' hK' => ?_)
                  go_simp
                  refine (HN7.out _ hu).mono ?_
                  rintro e w9 ⟨rfl, hb9⟩
                  exact hK' _ _ ⟨fun _ => rfl, fun h => absurd h (by decide), hb9⟩
                | 42, ho =>
                  obtain rfl := Option.some.inj ho
                  have e31' : a.tmps[150]? = some (.bool true) := hd 31 rfl rfl
                  have f15 : a.tmps[15]? = some (.bool true) := (hout 15 (by decide)).trans HF15.out
                  clear hd ho hout hX
                  refine wpOp_step rfl (fun K' hK' => ?_)
                  go_simp
                  exact hK' _ _ ⟨fun _ => rfl, fun h => absurd h (by decide), Below.refl _ _⟩
                | 43, ho =>
                  obtain rfl := Option.some.inj ho
                  have e31' : a.tmps[150]? = some (.bool true) := hd 31 rfl rfl
                  have e41' : a.tmps[160]? = some (.bool true) := hd 41 rfl rfl
                  have e42' : a.tmps[161]? = some (.bool true) := hd 42 rfl rfl
                  clear hd ho hout hX
                  refine wpOp_step rfl (fun K' hK' => ?_)
                  go_simp
                  exact hK' _ _ ⟨fun _ => rfl, fun h => absurd h (by decide), Below.refl _ _⟩
                | 44, ho =>
                  obtain rfl := Option.some.inj ho
                  have e31' : a.tmps[150]? = some (.bool true) := hd 31 rfl rfl
                  have e43' : a.tmps[162]? = some (.bool true) := hd 43 rfl rfl
                  clear hd ho hout hX
                  refine wpOp_step rfl (fun K' hK' => ?_)
                  go_simp
                  exact hK' _ _ ⟨fun _ => rfl, fun h => absurd h (by decide), Below.refl _ _⟩
                | 45, ho =>
                  obtain rfl := Option.some.inj ho
                  have e44' : a.tmps[163]? = some (.bool true) := hd 44 rfl rfl
                  clear hd ho hout hX
                  refine wpOp_step rfl (fun K' hK' => ?_)
                  go_simp
                  exact hK' _ _ ⟨fun _ => rfl, fun h => absurd h (by decide), Below.refl _ _⟩
                | i + 46, ho => cases ho
              case fin =>
                intro v u hbu hv hg
                have hvv := setD_congr F.tmps (fun i => if i = 45 then 4 else 119 + i) 46 v (fun i => ([.bool true, .bool true, .bool true, .bool false, .bool false, .bool true, .bool true, .bool true, .bool true, .pointer (some ⟨p6, 0, none⟩), .pointer (some ⟨w.heap.size, 1, none⟩), .slice a2 n2 c2, .pointer (some ⟨w.heap.size, 2, none⟩), .slice a3 n3 c3, .pointer (some ⟨w.heap.size, 4, none⟩), .string AB, .pointer (some ⟨w.heap.size, 5, none⟩), .int .i64 ri, .bool A0, .pointer (some ⟨p8, 0, none⟩), .pointer (some ⟨w.heap.size, 1, none⟩), .slice a2 n2 c2, .pointer (some ⟨w.heap.size, 2, none⟩), .slice a3 n3 c3, .pointer (some ⟨w.heap.size, 4, none⟩), .string AB, .pointer (some ⟨w.heap.size, 5, none⟩), .int .i64 ri, .bool A0, .bool true, .bool true, .bool true, .pointer (some ⟨p7, 0, none⟩), .pointer (some ⟨w.heap.size, 1, none⟩), .slice a2 n2 c2, .pointer (some ⟨w.heap.size, 2, none⟩), .slice a3 n3 c3, .pointer (some ⟨w.heap.size, 4, none⟩), .string AB, .pointer (some ⟨w.heap.size, 5, none⟩), .int .i64 ri, .bool true, .bool true, .bool true, .bool true, .bool true] : List Value).getD i undef) (fun i hi => by
                  rw [List.getD_eq_getElem?_getD, hv i hi rfl]; rfl)
                rw [hvv, ← HF.out]
                have hend := (HX.out _ hbu).2
                clear hvv hv HF HSZ hg hbu HF2 HF10 HF12 HF14 HF15 HF16
                simp only [setD, List.getD_cons_zero, List.getD_cons_succ, Nat.reduceAdd, List.setIfInBounds_toArray, List.set_cons_succ, List.set_cons_zero, if_true, if_false, Nat.reduceEqDiff]
                go_wp2_with fail
                all_goals (go_ret; exact ⟨rfl, hend⟩)

/-! The step from the walk to the row. -/
theorem own : ownKnob Tryz.prog.godebug = none := by kernel_rfl
theorem laidOut : laidOutB Tryz.prog = true := by kernel_rfl

set_option maxRecDepth 100000 in
theorem lifted (os : Os) (started : os.Started) (H : Type) (enc : TypeId × Value → H) :
    ReturnsInHanded {} Tryz.checked os 6 .any (Rows.aclFirstSpec.pre6 enc Tryz.prog Tryz.f6 Rows.aclFirstRow.domain false) (Rows.aclFirstSpec.post enc Tryz.prog Tryz.f6 false true false false) := by
  refine returnsInHanded_of_change_sized (C := Tryz.checked) own started (by kernel_rfl) Tryz.func6
    (ChangeSpec.witness6 (enc := enc) (C := Tryz.checked) false ⟨#[], #[.agg #[.slice none 0 0, .slice none 0 0, .slice none 0 0, .slice none 0 0, .string .empty, .int .i64 0], .int .i64 0], []⟩ 8 (by kernel_rfl) (by kernel_rfl) (by kernel_rfl) (by kernel_rfl)) ?_
  intro W base args ds gs before hval0 hW _ hsz0 _
  have hsz : (DataW.weightsEach Tryz.prog (Tryz.f6.params.toList ++ Rows.aclFirstSpec.plain.varTypes Tryz.prog) (ds ++ gs)).all (· ≤ reachBytes) = true := hsz0
  have hval : ∀ (j : Nat) t v, Tryz.f6.params[j]? = some t → args[j]? = some v → Value.okWide Tryz.prog W .any base t v := hval0
  have hW' := hW
  obtain ⟨p, q, hA0, hV, rfl, _, _⟩ := hW
  have hA : DataW.TrodAll enc Tryz.prog W 0 (fun _ => true) true Tryz.f6.params.toList args.toList ds p := hA0
  rw [Tryz.params6] at hA hval hsz
  obtain ⟨v0, vs0, d0, ds0, p0, q0, hargs, rfl, rfl, h0, r0⟩ := trodAll_cons hA
  obtain ⟨v1, vs1, d1, ds1, p1, q1, rfl, rfl, rfl, h1, r1⟩ := trodAll_cons r0
  obtain ⟨rfl, rfl, rfl⟩ := trodAll_nil r1
  obtain rfl : args = #[v0, v1] := by cases args; simp_all
  obtain ⟨rfl, rfl⟩ := trodVars_none hV
  have k0 := h0
  have lt0 : ∀ x ∈ p0, x.block < W.heap.size := by obtain ⟨m, hm⟩ := k0; exact DataW.trod_lt m _ _ _ hm
  obtain ⟨va0, vb0, vc0, vd0, c0, rfl, w0⟩ := open_case (j := 0) (hval 0 26 v0 rfl rfl) h0 rfl rfl hsz
  obtain ⟨a1, rfl, rfl, rfl, w1⟩ := open_int Tryz.underlying3 (hval 1 3 v1 rfl rfl) h1
  clear hA0 hval0
  simp only [List.append_nil] at hW'
  refine (walk va0 vb0 vc0 vd0 c0 a1 w1 W w0).mono fun e W' ⟨he, bel⟩ => ?_
  subst he
  exact ⟨_, rfl, _, _, _, [], _, [], hW', trodAll_mk1 (shut_bool Tryz.underlying4 _), (trodAll_cons_mk (Below.trod laidOut (by kernel_rfl) (of_decide_eq_true (by kernel_rfl)) k0 bel lt0) (trodAll_cons_mk (shut_int Tryz.underlying3 w1) trodAll_mk0)), rfl, bel.frame _, fun h => by cases h⟩

theorem proved : Rows.AclFirstSaid :=
  OpenClaim.holds_of_wide 6 Tryz.f6 rfl rfl rfl rfl rfl rfl rfl ⟨rfl, rfl, rfl, rfl, rfl⟩ rfl rfl rfl rfl rfl (by kernel_rfl) Tryz.func6 (by kernel_rfl)
    (of_decide_eq_true (by kernel_rfl)) (by unfold Func.isWrapper; first | (rw [if_pos (by decide +kernel)]; kernel_rfl) | (rw [if_neg (by decide +kernel)]; exact ⟨rfl, rfl⟩))
    (fun os started H enc _ => lifted os started H enc)

#print axioms proved
end Go.Proofs.YtngdbhncafnliaaGreat.aclFirst
