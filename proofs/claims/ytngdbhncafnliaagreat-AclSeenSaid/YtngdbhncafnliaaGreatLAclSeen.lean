/-
  AclSeen is proved: what anybody may see of any attributes, and whether of all of some; the attributes stay as they are. No condition.
-/
import Derived.Test.YtngdbhncafnliaaGreatRows
import Derived.ProofKit
import Derived.OpenShut
import Derived.ShutString
import Derived.SizedLaws
import Derived.Test.YtngdbhncafnliaaGreatPk54
namespace Go.Proofs.YtngdbhncafnliaaGreat.aclSeen
open Go.ChangeShapes Go.WideShapes Go.ChangeAt Go.RowKit
open Go.ChangeMaps (open_string shut_string)
set_option linter.unusedVariables false

set_option maxRecDepth 100000 in
set_option maxHeartbeats 8000000 in
theorem walk (v1 v2 v3 v4 : Value) (c : Mt.Ca) (l : List Mt.At) (av : Value) (hf : FitAt l) (w : World) (h : IsCa w v1 v2 v3 v4 c) (ha : IsAts w av l) : Calls Tryz.prog 5 #[caV v1 v2 v3 v4 c, av] w fun e w' => e = .returned (.bool true) ∧ Below w.heap.size w w' := by
  have HA := Lib.hid (fun u => awake22_any u)
  have HCF := Lib.hid (fun u => rcore22_far u)
  have HSM := Lib.hid (fun (u : World) (hu : Below w.heap.size w u) => small22_any (h.below hu))
  have HFW := Lib.hid (fun (u : World) (hu : Below w.heap.size w u) => few14_any (ha.below hu) hf.use.1 hf.use.2)
  have HTW := Lib.hid (fun (u : World) (hu : Below w.heap.size w u) => twinB_any (ha.below hu) hf)
  have HNW := Lib.hid (fun (u : World) (hu : Below w.heap.size w u) (tv cv : Value) (hs : IsSc u tv cv Mt.core) => new22_any hs (h.admin.below hu) (h.rules.below hu) h.rfit h.rlen)
  have hw32 : c.who.length ≤ 140737488355327 := by have := h.fwho.1; omega
  have he32 : c.entry.length ≤ 140737488355327 := by have := h.fentry.1; omega
  have HSB : Hid (∀ cs, Mt.newA Mt.core c.admin c.rules = .ok cs → ∀ (u : World) (bv : Value), Below w.heap.size w u → IsBk u bv cs → Calls Tryz.prog 17 #[bv, v2, v3, av, .int .i64 c.right] u fun e w' => ∃ a k, e = .returned (.slice a (Mt.seenA c.admin c.rules c.who c.entry c.right l).length k) ∧ IsAts w' (.slice a (Mt.seenA c.admin c.rules c.who c.entry c.right l).length k) (Mt.seenA c.admin c.rules c.who c.entry c.right l) ∧ Below u.heap.size u w') := Lib.hid (fun cs hn u bv hu hb => seenB_any c.right hn hb (h.who.below hu) (h.entry.below hu) hw32 he32 (ha.below hu) hf)
  have HLB : Hid (∀ cs, Mt.newA Mt.core c.admin c.rules = .ok cs → ∀ (u : World) (bv nv : Value), Below w.heap.size w u → IsBk u bv cs → IsNms u nv (l.map (·.1)) → Calls Tryz.prog 20 #[bv, v2, v3, .int .i64 c.right, nv] u fun e w' => e = .returned (.bool (Mt.rmayA c.admin c.rules c.who c.entry [] c.right && decide ((Mt.seenA c.admin c.rules c.who c.entry c.right l).length = l.length))) ∧ Below u.heap.size u w') := Lib.hid (fun cs hn u bv nv hu hb hv => allB_any c.right hn hb (h.who.below hu) (h.entry.below hu) hw32 he32 hv hf)
  have HRB : Hid (∀ cs, Mt.newA Mt.core c.admin c.rules = .ok cs → ∀ (u : World) (wv : Value), Below w.heap.size w u → IsAts u wv l → Calls Tryz.prog 18 #[v1, v4, v2, v3, wv, .int .i64 c.right] u fun e w' => ∃ a k, e = .returned (.slice a (Mt.seenA c.admin c.rules c.who c.entry c.right l).length k) ∧ IsAts w' (.slice a (Mt.seenA c.admin c.rules c.who c.entry c.right l).length k) (Mt.seenA c.admin c.rules c.who c.entry c.right l) ∧ Below u.heap.size u w') := Lib.hid (fun cs hn u wv hu hv => rseenB_any c.right hn (h.admin.below hu) (h.rules.below hu) (h.who.below hu) (h.entry.below hu) h.fadmin h.fwho h.fentry h.rfit h.rlen hv hf)
  have HMB : Hid (∀ cs, Mt.newA Mt.core c.admin c.rules = .ok cs → ∀ (u : World), Below w.heap.size w u → Calls Tryz.prog 14 #[v1, v4, v2, v3, .string ⟨#[]⟩, .int .i64 c.right] u fun e w' => e = .returned (.bool (Mt.rmayA c.admin c.rules c.who c.entry [] c.right)) ∧ Below u.heap.size u w') := Lib.hid (fun cs hn u hu =>
    rmay22_any [] (h.admin.below hu) (h.rules.below hu) (h.who.below hu) (h.entry.below hu) (Mt.fitD_T h.fadmin) (Mt.fitD_T h.fwho) (Mt.fitD_T h.fentry) (Mt.new_sound hn h.rfit) (by simp) (by have := h.rlen; omega))
  have HSS := Lib.hid (fun (u : World) (x y : Value) (hx : IsAts u x (Mt.seenA c.admin c.rules c.who c.entry c.right l)) (hy : IsAts u y (Mt.seenA c.admin c.rules c.who c.entry c.right l)) => same14_any hx hy (hf.seen ..).use.1 (hf.seen ..).use.2)
  have HSL := Lib.hid (fun (u : World) (x y : Value) (hx : IsAts u x l) (hy : IsAts u y l) => same14_any hx hy hf.use.1 hf.use.2)
  obtain ⟨RR, hRR⟩ : ∃ R, Mt.newA Mt.core c.admin c.rules = R := ⟨_, rfl⟩
  obtain ⟨WL, hWL⟩ : ∃ z, Mt.seenA c.admin c.rules c.who c.entry c.right l = z := ⟨_, rfl⟩
  obtain ⟨B0, hB0⟩ : ∃ z, Mt.rmayA c.admin c.rules c.who c.entry [] c.right = z := ⟨_, rfl⟩
  obtain ⟨NA, hNA⟩ : ∃ z, decide (WL.length = l.length) = z := ⟨_, rfl⟩
  have hwl : WL.length ≤ l.length := by rw [← hWL]; exact List.length_filter_le _ l
  simp only [hRR, hWL, hB0, hNA] at HNW HSB HLB HRB HMB HSS
  have HERR : Hid (∀ e, RR = .error e → 0 < e) := Lib.hid (fun e he => Mt.new_err (hRR.trans he))
  have HAT := Lib.hid (fun (u : World) (hu : Below w.heap.size w u) => ha.below hu)
  have hl40 := hf.1
  have hcv : caV v1 v2 v3 v4 c = .agg #[v1, v2, v3, v4, .string (Mt.str c.att), .int .i64 c.right] := rfl
  rw [hcv] at HSM ⊢
  obtain ⟨a1, c1, rfl, -⟩ := h.admin
  obtain ⟨a2, c2, rfl, -⟩ := h.who
  obtain ⟨a3, c3, rfl, -⟩ := h.entry
  obtain ⟨ra, rc, rfl, -, -⟩ := h.rules
  obtain ⟨ta0, tc0, rfl, htc, HAS⟩ := ha
  generalize c.admin.length = n1 at *
  generalize c.who.length = n2 at *
  generalize c.entry.length = n3 at *
  generalize c.rules.length = m at *
  generalize Mt.str c.att = AB at *
  generalize c.right = ri at *
  generalize hgn : l.length = n at HFW HTW HAT HSB hNA hwl hl40 htc ⊢
  generalize hgk : WL.length = k at HSB HRB HSS hNA hwl
  have HN := Lib.hid hgn
  have HNA := Lib.hid (show ((k : Int) == (n : Int)) = NA ∧ decide ((k : Int) = (n : Int)) = NA ∧ decide (k = n) = NA ∧ (k == n) = NA from by
    rw [← hNA]
    refine ⟨?_, ?_, rfl, ?_⟩
    · rw [Bool.eq_iff_iff]; simp; omega
    · rw [Bool.eq_iff_iff]; simp; omega
    · rw [Bool.eq_iff_iff]; simp)
  obtain ⟨w1, hw1⟩ : ∃ u, w.alloc (.cells #[.slice a1 n1 c1, .slice a2 n2 c2, .slice a3 n3 c3, .slice ra m rc, .string AB, .int .i64 ri] 26) = u := ⟨_, rfl⟩
  have hA1 : Below w.heap.size w w1 := by rw [← hw1]; exact (Below.refl _ w).alloc (Nat.le_refl _) _
  have hx1 : w1.heap[w.heap.size]? = some (.cells #[.slice a1 n1 c1, .slice a2 n2 c2, .slice a3 n3 c3, .slice ra m rc, .string AB, .int .i64 ri] 26) := by rw [← hw1]; exact heap_alloc_new w _
  have HU : Hid (∀ u, Below w1.heap.size w1 u → u.heap[w.heap.size]? = some (.cells #[.slice a1 n1 c1, .slice a2 n2 c2, .slice a3 n3 c3, .slice ra m rc, .string AB, .int .i64 ri] 26) ∧ Below w.heap.size w u) := Lib.hid (fun u hu => ⟨(hu.block _ (lt_of_block hx1)).trans hx1, hA1.trans (hu.mono hA1.size)⟩)
  have HQ : Hid (∀ u, Below w1.heap.size w1 u → u.cell? ⟨w.heap.size, 0, none⟩ = some (.slice a1 n1 c1) ∧ u.cell? ⟨w.heap.size, 1, none⟩ = some (.slice a2 n2 c2) ∧ u.cell? ⟨w.heap.size, 2, none⟩ = some (.slice a3 n3 c3) ∧ u.cell? ⟨w.heap.size, 3, none⟩ = some (.slice ra m rc) ∧ u.cell? ⟨w.heap.size, 4, none⟩ = some (.string AB) ∧ u.cell? ⟨w.heap.size, 5, none⟩ = some (.int .i64 ri)) := Lib.hid (fun u hu => box6_of (HU.out u hu).1)
  have HW1 : Hid (Below w1.heap.size w1 w1.drew) := Lib.hid (Below.refl _ w1).drew
  clear h hf hA1 hx1 hRR hWL hB0 hNA hwl hcv hw32 he32 hgn hgk htc
  go_enter Tryz.func5, Tryz.ntmps5
  go_upto_region 1 with fail
  go_region_held3 (fun w' => w'.cell? ⟨w.heap.size, 0, none⟩ = some (.slice a1 n1 c1) ∧ w'.cell? ⟨w.heap.size, 1, none⟩ = some (.slice a2 n2 c2) ∧ w'.cell? ⟨w.heap.size, 2, none⟩ = some (.slice a3 n3 c3) ∧ w'.cell? ⟨w.heap.size, 3, none⟩ = some (.slice ra m rc) ∧ w'.cell? ⟨w.heap.size, 4, none⟩ = some (.string AB) ∧ w'.cell? ⟨w.heap.size, 5, none⟩ = some (.int .i64 ri))
    (first
      | with_reducible exact HQ.out _ HW1.out
      | with_reducible exact HQ.out _ HW3.out
      | with_reducible exact HQ.out _ HW4.out
      | go_keep)
    (first
      | (go_at_call 11; (with_reducible refine (HCF.out _).mono ?_); rintro e w3 ⟨ta, tn, tc, ca, cn, cc, rfl, hf, hb⟩; have HW3 := Lib.hid (HW1.out.trans (hb.mono HW1.out.size)); have HSC3 := Lib.hid (hf w3 (fun _ _ _ => rfl)); clear hb hf)
      | (go_at_call 10; (with_reducible refine (HNW.out _ (HU.out _ HW3.out).2 _ _ HSC3.out).mono ?_); rintro e w4 ⟨hnp, hb⟩; have HW4 := Lib.hid (HW3.out.trans (hb.mono HW3.out.size)); obtain ⟨NB, EE, rfl, hen⟩ : ∃ NB EE, e = .returned (.tuple #[NB, .int .i64 EE]) ∧ ((∃ x : Nat, RR = .error x ∧ EE = x ∧ NB = .pointer none) ∨ (∃ cs p, RR = .ok cs ∧ EE = 0 ∧ NB = .pointer (some ⟨p, 0, none⟩) ∧ IsBk w4 (.pointer (some ⟨p, 0, none⟩)) cs)) := (by
          rcases hnp.two with ⟨x, h1, h2⟩ | ⟨cs, p, h1, h2, h3⟩
          · exact ⟨_, _, h2, .inl ⟨x, h1, rfl, rfl⟩⟩
          · exact ⟨_, _, h2, .inr ⟨cs, p, h1, rfl, rfl, h3⟩⟩); have HEN := Lib.hid hen; clear hnp hb hen))
  all_goals
    go_upto_region 2 with fail
    obtain ⟨q0, q1, q2, q3, q4, q5⟩ := HQ.out _ HW4.out
    have HC4 := Lib.hid (HSM.out _ (HU.out _ HW4.out).2)
    rcases HEN.out with ⟨x, hr, rfl, rfl⟩ | ⟨cs, p, hr, rfl, rfl, hbk⟩
    · have hx0 := HERR.out x hr
      have k1 : ((x : Int) != 0) = true := by simp; omega
      have k2 : ¬ x = 0 := by omega
      clear HEN hr hx0
      go_wp2_with fail
      refine (HC4.out).mono ?_
      rintro e w5 ⟨⟨bb, rfl⟩, hb⟩
      have HW5 := Lib.hid (HW4.out.trans (hb.mono HW4.out.size))
      clear hb q0 q1 q2 q3 q4 q5
      cases bb
      all_goals
        go_wp2_with fail
        refine (HA.out _).mono ?_
        rintro e w6 ⟨rfl, hb⟩
        have HB6 := Lib.hid (HU.out _ (HW5.out.trans (hb.mono HW5.out.size))).2
        clear hb
        go_wp2_with fail
        all_goals (go_ret; exact ⟨rfl, HB6.out⟩)
    · have HBK := Lib.hid hbk
      have HSBc := Lib.hid (HSB.out cs hr)
      have HLBc := Lib.hid (HLB.out cs hr)
      have HRBc := Lib.hid (HRB.out cs hr)
      have HMBc := Lib.hid (HMB.out cs hr)
      clear HEN hr hbk HSB HLB HRB HMB
      go_wp2_with fail
      refine (HC4.out).mono ?_
      rintro e w5 ⟨⟨bb, rfl⟩, hb⟩
      have HW5 := Lib.hid (HW4.out.trans (hb.mono HW4.out.size))
      have HBK5 := Lib.hid (HBK.out.below hb)
      clear hb q0 q1 q2 q3 q4 q5 HBK
      cases bb with
      | false =>
        go_wp2_with fail
        refine (HA.out _).mono ?_
        rintro e w6 ⟨rfl, hb⟩
        have HB6 := Lib.hid (HU.out _ (HW5.out.trans (hb.mono HW5.out.size))).2
        clear hb
        go_wp2_with fail
        all_goals (go_ret; exact ⟨rfl, HB6.out⟩)
      | true =>
      have HF5 := Lib.hid (HFW.out _ (HU.out _ HW5.out).2)
      go_wp2_with fail
      refine (HF5.out).mono ?_
      rintro e w6 ⟨⟨bb, rfl⟩, hb⟩
      have HW6 := Lib.hid (HW5.out.trans (hb.mono HW5.out.size))
      have HBK6 := Lib.hid (HBK5.out.below hb)
      clear hb HBK5
      cases bb with
      | false =>
        go_wp2_with fail
        refine (HA.out _).mono ?_
        rintro e w7 ⟨rfl, hb⟩
        have HB7 := Lib.hid (HU.out _ (HW6.out.trans (hb.mono HW6.out.size))).2
        clear hb
        go_wp2_with fail
        all_goals (go_ret; exact ⟨rfl, HB7.out⟩)
      | true =>
      have HT6 := Lib.hid (HTW.out _ (HU.out _ HW6.out).2)
      go_wp2_with fail
      refine (HT6.out).mono ?_
      rintro e w7 ⟨b7, k7, rfl, hwas, hb⟩
      have HW7 := Lib.hid (HW6.out.trans (hb.mono HW6.out.size))
      have HBK7 := Lib.hid (HBK6.out.below hb)
      have HWAS7 := Lib.hid hwas
      clear hb hwas HBK6
      obtain ⟨q0, q1, q2, q3, q4, q5⟩ := HQ.out _ HW7.out
      have HS7 := Lib.hid (HSBc.out _ _ (HU.out _ HW7.out).2 HBK7.out)
      go_wp2_with fail
      refine (HS7.out).mono ?_
      rintro e w8 ⟨b8, k8, rfl, hl8, hb⟩
      have HW8 := Lib.hid (HW7.out.trans (hb.mono HW7.out.size))
      have HBK8 := Lib.hid (HBK7.out.below hb)
      have HWAS8 := Lib.hid (HWAS7.out.below hb)
      have HL8 := Lib.hid hl8
      clear hb hl8 HBK7 HWAS7 q0 q1 q2 q3 q4 q5
      obtain ⟨q0, q1, q2, q3, q4, q5⟩ := HQ.out _ HW8.out
      have HR8 := Lib.hid (HRBc.out _ _ (HU.out _ HW8.out).2 HWAS8.out)
      go_wp2_with fail
      refine (HR8.out).mono ?_
      rintro e w9 ⟨b9, k9, rfl, hl9, hb⟩
      have HW9 := Lib.hid (HW8.out.trans (hb.mono HW8.out.size))
      have HBK9 := Lib.hid (HBK8.out.below hb)
      have HWAS9 := Lib.hid (HWAS8.out.below hb)
      have HL9 := Lib.hid (HL8.out.below hb)
      have HM9 := Lib.hid hl9
      clear hb hl9 HBK8 HWAS8 HL8 q0 q1 q2 q3 q4 q5
      have HY9 := Lib.hid (HSS.out _ _ _ HL9.out HM9.out)
      go_wp2_with fail
      refine (HY9.out).mono ?_
      rintro e w10 ⟨rfl, hb⟩
      have HW10 := Lib.hid (HW9.out.trans (hb.mono HW9.out.size))
      have HBK10 := Lib.hid (HBK9.out.below hb)
      have HWAS10 := Lib.hid (HWAS9.out.below hb)
      clear hb HBK9 HWAS9 HL9 HM9
      have HY10 := Lib.hid (HSL.out _ _ _ (HAT.out _ (HU.out _ HW10.out).2) HWAS10.out)
      go_wp2_with fail
      refine (HY10.out).mono ?_
      rintro e w11 ⟨rfl, hb⟩
      have HW11 := Lib.hid (HW10.out.trans (hb.mono HW10.out.size))
      have HBK11 := Lib.hid (HBK10.out.below hb)
      clear hb HBK10 HWAS10
      go_wp2_with fail
      go_loopw [71, 10] (fun iv ov wr => ∃ (i : Nat) (a6 : Option Addr) (c6 : Nat), i ≤ n ∧ iv = .int .i64 (i : Int) ∧ ov = .slice a6 i c6 ∧ Hid (IsOwn 9 1 w11.heap.size wr (.slice a6 i c6) i (nms ((l.take i).map (·.1)))) ∧ Hid (Below w11.heap.size w11 wr)) (fun iv _ _ => n - (intOf iv).toNat)
      case atStart => exact ⟨0, none, 0, Nat.zero_le _, rfl, rfl, Lib.hid (by simpa [nms] using IsOwn.nil 9 1 w11.heap.size w11), Lib.hid (Below.refl _ _)⟩
      case round =>
        obtain ⟨i, a6, c6, hi, rfl, rfl, HO, HB⟩ := hrel
        have HWr := Lib.hid (HW11.out.trans (HB.out.mono HW11.out.size))
        by_cases hlt : i < n
        · have e1 : decide ((i : Int) < (n : Int)) = true := decide_eq_true (by omega)
          have e2 : decide (i < n) = true := decide_eq_true hlt
          have i0 : (0 : Int) ≤ (i : Int) := by omega
          have i1 : (i : Int) < (n : Int) := by omega
          have hil : i < l.length := by rw [HN.out]; exact hlt
          obtain ⟨b, off, x, e0, hbl, h0, h1, hx⟩ := HAS.out i hil
          subst e0
          have x0 := ((HU.out _ HWr.out).2.cell (p := ⟨b, off + i * 2, none⟩) hbl).trans h0
          have x1 := ((HU.out _ HWr.out).2.cell (p := ⟨b, off + i * 2 + 1, none⟩) hbl).trans h1
          have HTS : Hid ((l.take (i + 1)).map (·.1) = (l.take i).map (·.1) ++ [l[i].1]) := Lib.hid (by rw [List.take_succ_eq_append_getElem hil, List.map_append]; rfl)
          obtain ⟨xa, xc, rfl, -, -⟩ := hx
          generalize l[i].2.length = xk at *
          obtain ⟨nm, hnm⟩ : ∃ y, l[i].1 = y := ⟨_, rfl⟩
          rw [hnm] at x0 HTS
          obtain ⟨NB, hNB⟩ : ∃ y, Mt.str nm = y := ⟨_, rfl⟩
          rw [hNB] at x0
          obtain ⟨wx, hwx⟩ : ∃ u, wr.alloc (.cells #[.string NB, .slice xa xk xc] 49) = u := ⟨_, rfl⟩
          have hka : wx.heap[wr.heap.size]? = some (.cells #[.string NB, .slice xa xk xc] 49) := by rw [← hwx]; exact heap_alloc_new wr _
          have hba : Below wr.heap.size wr wx := by rw [← hwx]; exact (Below.refl _ wr).alloc (Nat.le_refl _) _
          obtain ⟨a8, c8, w8', hrun, hown, hb8⟩ := name_push (nm := nm) HO.out hba HB.out.size (by omega)
          rw [hNB] at hrun
          have HO8 : Hid (IsOwn 9 1 w11.heap.size w8' (.slice a8 (i + 1) c8) (i + 1) (nms ((l.take (i + 1)).map (·.1)))) := Lib.hid (by rw [HTS.out]; exact hown)
          have HW8' := Lib.hid (HB.out.trans ((hba.mono HB.out.size).trans hb8))
          obtain ⟨y0, y1⟩ := box2_at hka
          clear hbl h0 h1 hil hnm hNB hka hba hown hb8
          go_upto_region 13 with fail
          clear x0 x1
          go_upto_region 14 with (with_reducible refine oper_append22 (.tmp 75) (.tmp 78) 47 47 ?_ _ _ ?_ ?_ _ ?_ hrun ?_; rfl; simp [go_sem]; simp [go_sem]; with_reducible rfl)
          clear hrun y0 y1
          go_wp2_with fail
          go_roundw
          case rel => exact ⟨i + 1, a8, c8, by omega, by go_num, rfl, HO8, HW8'⟩
          case measure => simp [intOf]; omega
        · obtain rfl : i = n := by omega
          have e1 : decide ((i : Int) < (i : Int)) = false := decide_eq_false (by omega)
          have e2 : decide (i < i) = false := decide_eq_false (by omega)
          have HNV : Hid (IsNms wr (.slice a6 i c6) (l.map (·.1))) := Lib.hid (by
            have h9 := HO.out
            rw [List.take_of_length_le (by rw [HN.out]; exact Nat.le_refl _)] at h9
            exact IsOwn.nms (by rw [List.length_map, HN.out]; exact h9))
          have HBKr := Lib.hid (HBK11.out.below HB.out)
          obtain ⟨q0, q1, q2, q3, q4, q5⟩ := HQ.out _ HWr.out
          have HMr := Lib.hid (HMBc.out _ (HU.out _ HWr.out).2)
          clear HO HB HBK11
          go_wp2_with fail
          refine (HMr.out).mono ?_
          rintro e wy ⟨rfl, hb⟩
          have HWy := Lib.hid (HWr.out.trans (hb.mono HWr.out.size))
          have HBKy := Lib.hid (HBKr.out.below hb)
          have HNVy := Lib.hid (HNV.out.below hb)
          clear hb q0 q1 q2 q3 q4 q5 HBKr HNV
          go_wp2_with fail
          refine (HA.out _).mono ?_
          rintro e wz ⟨rfl, hb⟩
          have HWz := Lib.hid (HWy.out.trans (hb.mono HWy.out.size))
          have HBKz := Lib.hid (HBKy.out.below hb)
          have HNVz := Lib.hid (HNVy.out.below hb)
          clear hb HBKy HNVy
          obtain ⟨q0, q1, q2, q3, q4, q5⟩ := HQ.out _ HWz.out
          have HLz := Lib.hid (HLBc.out _ _ _ (HU.out _ HWz.out).2 HBKz.out HNVz.out)
          go_wp2_with fail
          refine (HLz.out).mono ?_
          rintro e wq ⟨rfl, hb⟩
          have HWq := Lib.hid (HU.out _ (HWz.out.trans (hb.mono HWz.out.size))).2
          clear hb q0 q1 q2 q3 q4 q5
          obtain ⟨g1, g2, g3, g4⟩ := HNA.out
          cases B0 <;> cases NA
          all_goals
            go_wp2_with fail
            all_goals (go_ret; exact ⟨by first | rfl | simp, HWq.out⟩)

/-! The step from the walk to the row. -/
theorem own : ownKnob Tryz.prog.godebug = none := by kernel_rfl
theorem laidOut : laidOutB Tryz.prog = true := by kernel_rfl

set_option maxRecDepth 100000 in
theorem lifted (os : Os) (started : os.Started) (H : Type) (enc : TypeId × Value → H) :
    ReturnsInHanded {} Tryz.checked os 5 .any (Rows.aclSeenSpec.pre6 enc Tryz.prog Tryz.f5 Rows.aclSeenRow.domain false) (Rows.aclSeenSpec.post enc Tryz.prog Tryz.f5 false true false false) := by
  refine returnsInHanded_of_change_sized (C := Tryz.checked) own started (by kernel_rfl) Tryz.func5
    (ChangeSpec.witness6 (enc := enc) (C := Tryz.checked) false ⟨#[], #[.agg #[.slice none 0 0, .slice none 0 0, .slice none 0 0, .slice none 0 0, .string .empty, .int .i64 0], .slice none 0 0], []⟩ 8 (by kernel_rfl) (by kernel_rfl) (by kernel_rfl) (by kernel_rfl)) ?_
  intro W base args ds gs before hval0 hW _ hsz0 _
  have hsz : (DataW.weightsEach Tryz.prog (Tryz.f5.params.toList ++ Rows.aclSeenSpec.plain.varTypes Tryz.prog) (ds ++ gs)).all (· ≤ reachBytes) = true := hsz0
  have hval : ∀ (j : Nat) t v, Tryz.f5.params[j]? = some t → args[j]? = some v → Value.okWide Tryz.prog W .any base t v := hval0
  have hW' := hW
  obtain ⟨p, q, hA0, hV, rfl, _, _⟩ := hW
  have hA : DataW.TrodAll enc Tryz.prog W 0 (fun _ => true) true Tryz.f5.params.toList args.toList ds p := hA0
  rw [Tryz.params5] at hA hval hsz
  obtain ⟨v0, vs0, d0, ds0, p0, q0, hargs, rfl, rfl, h0, r0⟩ := trodAll_cons hA
  obtain ⟨v1, vs1, d1, ds1, p1, q1, rfl, rfl, rfl, h1, r1⟩ := trodAll_cons r0
  obtain ⟨rfl, rfl, rfl⟩ := trodAll_nil r1
  obtain rfl : args = #[v0, v1] := by cases args; simp_all
  obtain ⟨rfl, rfl⟩ := trodVars_none hV
  have k0 := h0
  have lt0 : ∀ x ∈ p0, x.block < W.heap.size := by obtain ⟨m, hm⟩ := k0; exact DataW.trod_lt m _ _ _ hm
  obtain ⟨va0, vb0, vc0, vd0, c0, rfl, w0⟩ := open_case (j := 0) (hval 0 26 v0 rfl rfl) h0 rfl rfl hsz
  obtain ⟨a1, n1, c1, rfl⟩ := okWide_slice Tryz.underlying41 (hval 1 41 v1 rfl rfl)
  have k1 := h1
  have lt1 : ∀ x ∈ p1, x.block < W.heap.size := by obtain ⟨m, hm⟩ := k1; exact DataW.trod_lt m _ _ _ hm
  obtain ⟨l1, w1, z1⟩ := open_atsA (j := 1) h1 rfl rfl hsz
  clear hA0 hval0
  simp only [List.append_nil] at hW'
  refine (walk va0 vb0 vc0 vd0 c0 l1 (.slice a1 n1 c1) z1 W w0 w1).mono fun e W' ⟨he, bel⟩ => ?_
  subst he
  exact ⟨_, rfl, _, _, _, [], _, [], hW', trodAll_mk1 (shut_bool Tryz.underlying4 _), (trodAll_cons_mk (Below.trod laidOut (by kernel_rfl) (of_decide_eq_true (by kernel_rfl)) k0 bel lt0) (trodAll_cons_mk (Below.trod laidOut (by kernel_rfl) (of_decide_eq_true (by kernel_rfl)) k1 bel lt1) trodAll_mk0)), rfl, bel.frame _, fun h => by cases h⟩

theorem proved : Rows.AclSeenSaid :=
  OpenClaim.holds_of_wide 5 Tryz.f5 rfl rfl rfl rfl rfl rfl rfl ⟨rfl, rfl, rfl, rfl, rfl⟩ rfl rfl rfl rfl rfl (by kernel_rfl) Tryz.func5 (by kernel_rfl)
    (of_decide_eq_true (by kernel_rfl)) (by unfold Func.isWrapper; first | (rw [if_pos (by decide +kernel)]; kernel_rfl) | (rw [if_neg (by decide +kernel)]; exact ⟨rfl, rfl⟩))
    (fun os started H enc _ => lifted os started H enc)

#print axioms proved
end Go.Proofs.YtngdbhncafnliaaGreat.aclSeen
