/-
  SchemaFinds is proved: the type, the class, and the chain of any name. Condition: what comes in is of a bulk of at most 1048576.
-/
import Derived.Test.YthkhicpkkmhfbaaRows
import Derived.Test.YthkhicpkkmhfbaaScR
import Derived.Test.YthkhicpkkmhfbaaScYa
import Derived.Test.YthkhicpkkmhfbaaScDa
import Derived.Test.YthkhicpkkmhfbaaRegion
import Derived.ProofKit
import Derived.Deep.CondSized
import Derived.OpenShut
import Derived.ShutString
import Derived.SizedLaws
namespace Go.Proofs.Ythkhicpkkmhfbaa.schemaFinds
open Go.ChangeShapes Go.WideShapes Go.ChangeAt Go.RowKit
open Go.ChangeMaps (open_string shut_string)
set_option linter.unusedVariables false
set_option linter.unusedSimpArgs false

set_option maxRecDepth 100000 in
set_option maxHeartbeats 8000000 in
theorem walk (s : Mt.Sc) (tv cv : Value) (nb : ByteArray) (hz : ∀ c ∈ s.classes, c.must.length + c.may.length ≤ 1048576) (hnb : nb.size ≤ 140737488351232) (hnk : nb.size ≤ 1048576) (w : World) (h : IsSc w tv cv s) :
    Calls Try.prog 4 #[.agg #[tv, cv], .string nb] w fun e w' => e = .returned (.bool true) ∧ Below w.heap.size w w' := by
  obtain ⟨n, rfl⟩ : ∃ n, nb = Mt.str n := ⟨nb.data.toList, rfl⟩
  rw [Mt.str_size] at hnb
  have HA := Lib.hid (fun u => awake13_any u)
  have HSM := Lib.hid (fun (u : World) (hb : Below w.heap.size w u) => small13_any (h.below hb) (fun c hc => Nat.le_trans (hz c hc) (by decide)))
  have HFI := Lib.hid (fun (u : World) (hb : Below w.heap.size w u) => find13_any n hnb (h.below hb))
  have HCI := Lib.hid (fun (u : World) (hb : Below w.heap.size w u) => class13_any n hnb (h.below hb))
  have HAT := Lib.hid (fun (u : World) (hb : Below w.heap.size w u) => rTyAt_any (h.below hb) n hnb)
  have HCA := Lib.hid (fun (u : World) (hb : Below w.heap.size w u) => rClAt_any (h.below hb) n hnb)
  have HCH := Lib.hid (fun (u : World) (hb : Below w.heap.size w u) => chainN_any n hnb (h.below hb))
  have HRC := Lib.hid (fun (hk : Mt.chk s = 0) (u : World) (hb : Below w.heap.size w u) => rchain13_any n hnb (h.below hb) hk)
  have HLEN := Lib.hid (show (Mt.chainN s n).length ≤ s.classes.length by unfold Mt.chainN; rw [List.length_map]; exact Mt.chain_len s n)
  have hkr := Mt.tyAt_range s n
  have hqr := Mt.clAt_range s n
  have HTO : Hid ((Mt.tyAt s n < 0 → Mt.tyOf s n = ⟨[], 0, false, false⟩) ∧ (0 ≤ Mt.tyAt s n → Mt.tyOf s n = Mt.tyI s (Mt.tyAt s n))) := Lib.hid (by
    unfold Mt.tyOf
    exact ⟨fun h => if_pos h, fun h => if_neg (by omega)⟩)
  have HCO : Hid ((Mt.clAt s n < 0 → Mt.clOf s n = ⟨[], [], 0, [], []⟩) ∧ (0 ≤ Mt.clAt s n → Mt.clOf s n = Mt.clI s (Mt.clAt s n))) := Lib.hid (by
    unfold Mt.clOf
    exact ⟨fun h => if_pos h, fun h => if_neg (by omega)⟩)
  obtain ⟨k, hk⟩ : ∃ k, Mt.tyAt s n = k := ⟨_, rfl⟩
  obtain ⟨q, hq⟩ : ∃ k, Mt.clAt s n = k := ⟨_, rfl⟩
  obtain ⟨TO, hTO⟩ : ∃ t, Mt.tyOf s n = t := ⟨_, rfl⟩
  obtain ⟨CO, hCO⟩ : ∃ t, Mt.clOf s n = t := ⟨_, rfl⟩
  obtain ⟨CN, hCN⟩ : ∃ l, Mt.chainN s n = l := ⟨_, rfl⟩
  rw [hk] at hkr HTO HFI HAT
  rw [hq] at hqr HCO HCI HCA
  rw [hTO] at HTO HFI
  rw [hCO] at HCO HCI
  rw [hCN] at HLEN HCH HRC
  obtain ⟨NT, hNT⟩ : ∃ x, Mt.str TO.name = x := ⟨_, rfl⟩
  obtain ⟨sy, hsy⟩ : ∃ x, TO.syn = x := ⟨_, rfl⟩
  obtain ⟨sg, hsg⟩ : ∃ x, TO.single = x := ⟨_, rfl⟩
  obtain ⟨op, hop⟩ : ∃ x, TO.oper = x := ⟨_, rfl⟩
  obtain ⟨NC, hNC⟩ : ∃ x, Mt.str CO.name = x := ⟨_, rfl⟩
  obtain ⟨UC, hUC⟩ : ∃ x, Mt.str CO.sup = x := ⟨_, rfl⟩
  obtain ⟨kc, hkc⟩ : ∃ x, CO.kind = x := ⟨_, rfl⟩
  obtain ⟨OKT, hOKT⟩ : ∃ x, decide (0 ≤ k) = x := ⟨_, rfl⟩
  obtain ⟨OKC, hOKC⟩ : ∃ x, decide (0 ≤ q) = x := ⟨_, rfl⟩
  rw [hNT, hsy, hsg, hop, hOKT] at HFI
  rw [hNC, hUC, hkc, hOKC] at HCI
  have HNT := Lib.hid (And.intro hNT (And.intro hsy (And.intro hsg hop)))
  have HNC := Lib.hid (And.intro hNC (And.intro hUC hkc))
  have HOK := Lib.hid (And.intro hOKT hOKC)
  obtain ⟨ta, tcap, hv1, htc, HTS⟩ := h.types
  obtain ⟨ca, ccap, hv2, hcc, HCS⟩ := h.classes
  have hlt := h.tlen
  have hlc := h.clen
  have HCM := Lib.hid h.cnm
  obtain ⟨tn, htn⟩ : ∃ n, s.types.length = n := ⟨_, rfl⟩
  obtain ⟨m, hm⟩ : ∃ n, s.classes.length = n := ⟨_, rfl⟩
  have HMM := Lib.hid (And.intro htn hm)
  rw [htn] at hv1 hlt htc hkr
  rw [hm] at hv2 hlc hcc hqr HLEN
  subst hv1 hv2
  have HS0 : Hid (Mt.smallS s = true → Mt.chk s = 0) := Lib.hid (fun hh => by
    unfold Mt.smallS at hh
    simp only [Bool.and_eq_true, decide_eq_true_eq] at hh
    exact hh.2)
  obtain ⟨S, hS⟩ : ∃ S, Mt.smallS s = S := ⟨_, rfl⟩
  rw [hS] at HSM HS0
  obtain ⟨NB, hNB⟩ : ∃ x, Mt.str n = x := ⟨_, rfl⟩
  rw [hNB] at HFI HCI HAT HCA HCH HRC ⊢
  obtain ⟨w1, hw1⟩ : ∃ w1, w.alloc (.cells #[.slice ta tn tcap, .slice ca m ccap] 25) = w1 := ⟨_, rfl⟩
  have hA1 : Below w.heap.size w w1 := by rw [← hw1]; exact (Below.refl _ w).alloc (Nat.le_refl _) _
  have hs1 : w1.heap.size = w.heap.size + 1 := by rw [← hw1]; simp
  have hx1 : w1.heap[w.heap.size]? = some (.cells #[.slice ta tn tcap, .slice ca m ccap] 25) := by rw [← hw1]; exact heap_alloc_new w _
  have HA1 := Lib.hid hA1
  have HP : Hid (∀ u, Below w1.heap.size w1 u → (u.cell? ⟨w.heap.size, 0, none⟩ = some (.slice ta tn tcap) ∧ u.cell? ⟨w.heap.size, 1, none⟩ = some (.slice ca m ccap)) ∧ Below w.heap.size w u) := Lib.hid (fun u hu => by
    have r1 := (hu.block w.heap.size (by omega)).trans hx1
    exact ⟨⟨by rw [cell_of_row _ _ _ _ _ _ r1]; rfl, by rw [cell_of_row _ _ _ _ _ _ r1]; rfl⟩, hA1.trans (hu.mono hA1.size)⟩)
  obtain ⟨p0, p1⟩ := (HP.out w1 (Below.refl _ _)).1
  clear h hx1 hA1 hz hS hNB hnb hnk hk hq hTO hCO hCN hNT hsy hsg hop hNC hUC hkc hOKT hOKC htn hm
  cases S with
  | false =>
    go_enter Try.func4, Try.ntmps4
    go_wp2_with fail
    refine (HSM.out _ HA1.out).mono ?_
    rintro e w2 ⟨rfl, hb⟩
    have HB2 := Lib.hid (HA1.out.trans (hb.mono HA1.out.size))
    clear hb
    go_wp2_with fail
    refine (HA.out _).mono ?_
    rintro e w3 ⟨rfl, hb⟩
    have HB3 := Lib.hid (HB2.out.trans (hb.mono HB2.out.size))
    clear hb
    go_wp2_with fail
    all_goals (go_ret; exact ⟨rfl, HB3.out⟩)
  | true =>
    have HK0 := Lib.hid (HS0.out rfl)
    clear HS0
    go_enter Try.func4, Try.ntmps4
    go_wp2_with fail
    refine (HSM.out _ HA1.out).mono ?_
    rintro e w2 ⟨rfl, hb⟩
    have HW2 : Hid (Below w1.heap.size w1 w2) := Lib.hid hb
    clear hb p0 p1
    obtain ⟨⟨p0, p1⟩, hB⟩ := HP.out w2 HW2.out
    have HB2 := Lib.hid hB
    clear hB
    go_wp2_with fail
    refine (HFI.out _ HB2.out).mono ?_
    rintro e w3 ⟨rfl, hb⟩
    have HW3 := Lib.hid (HW2.out.trans (hb.mono HW2.out.size))
    clear hb p0 p1
    obtain ⟨w3a, hw3a⟩ : ∃ u, w3.alloc (.cells #[.string NT, .int .i64 sy, .bool sg, .bool op] 35) = u := ⟨_, rfl⟩
    have hb3a : Below w3.heap.size w3 w3a := by rw [← hw3a]; exact (Below.refl _ w3).alloc (Nat.le_refl _) _
    have hx3a : w3a.heap[w3.heap.size]? = some (.cells #[.string NT, .int .i64 sy, .bool sg, .bool op] 35) := by rw [← hw3a]; exact heap_alloc_new w3 _
    have hs3a := lt_of_block hx3a
    have HW3a := Lib.hid (HW3.out.trans (hb3a.mono HW3.out.size))
    have HX3 : Hid (∀ u, Below w3a.heap.size w3a u → u.cell? ⟨w3.heap.size, 0, none⟩ = some (.string NT) ∧ u.cell? ⟨w3.heap.size, 1, none⟩ = some (.int .i64 sy) ∧ u.cell? ⟨w3.heap.size, 2, none⟩ = some (.bool sg) ∧ u.cell? ⟨w3.heap.size, 3, none⟩ = some (.bool op)) := Lib.hid (fun u hu => (box4_of ((hu.block _ hs3a).trans hx3a)).1)
    clear hb3a hx3a
    go_upto_region 4 with fail
    obtain ⟨⟨p0, p1⟩, hB⟩ := HP.out w3a HW3a.out
    have HB3a := Lib.hid hB
    clear hB
    go_wp2_with fail
    refine (HCI.out _ HB3a.out).mono ?_
    rintro e w4 ⟨a1, n1, c1, a2, n2, c2, rfl, hm4, hy4, hb⟩
    have HW4 := Lib.hid (HW3a.out.trans (hb.mono HW3a.out.size))
    have HY4 : Hid (Below w3a.heap.size w3a w4) := Lib.hid hb
    have HM4 := Lib.hid (And.intro hm4 hy4)
    clear hb p0 p1 hm4 hy4
    obtain ⟨w4a, hw4a⟩ : ∃ u, w4.alloc (.cells #[.string NC, .string UC, .int .i64 kc, .slice a1 n1 c1, .slice a2 n2 c2] 31) = u := ⟨_, rfl⟩
    have hb4a : Below w4.heap.size w4 w4a := by rw [← hw4a]; exact (Below.refl _ w4).alloc (Nat.le_refl _) _
    have hx4a : w4a.heap[w4.heap.size]? = some (.cells #[.string NC, .string UC, .int .i64 kc, .slice a1 n1 c1, .slice a2 n2 c2] 31) := by rw [← hw4a]; exact heap_alloc_new w4 _
    have hs4a := lt_of_block hx4a
    have HW4a := Lib.hid (HW4.out.trans (hb4a.mono HW4.out.size))
    have HY4a := Lib.hid (HY4.out.trans (hb4a.mono HY4.out.size))
    have HM4a := Lib.hid (And.intro (HM4.out.1.below hb4a) (HM4.out.2.below hb4a))
    have HX4 : Hid (∀ u, Below w4a.heap.size w4a u → u.cell? ⟨w4.heap.size, 0, none⟩ = some (.string NC) ∧ u.cell? ⟨w4.heap.size, 1, none⟩ = some (.string UC) ∧ u.cell? ⟨w4.heap.size, 2, none⟩ = some (.int .i64 kc) ∧ u.cell? ⟨w4.heap.size, 3, none⟩ = some (.slice a1 n1 c1) ∧ u.cell? ⟨w4.heap.size, 4, none⟩ = some (.slice a2 n2 c2)) := Lib.hid (fun u hu => (box5_of ((hu.block _ hs4a).trans hx4a)).1)
    clear hb4a hx4a
    go_upto_region 5 with fail
    obtain ⟨⟨p0, p1⟩, hB⟩ := HP.out w4a HW4a.out
    have HBd := Lib.hid hB.drew
    have HYd : Hid (Below w4a.heap.size w4a w4a.drew) := Lib.hid (Below.refl _ w4a).drew
    have HWd := Lib.hid HW4a.out.drew
    clear hB
    go_region_held3 (fun w' => w'.cell? ⟨w.heap.size, 0, none⟩ = some (.slice ta tn tcap) ∧ w'.cell? ⟨w.heap.size, 1, none⟩ = some (.slice ca m ccap))
      (first
        | with_reducible exact ⟨p0, p1⟩
        | with_reducible exact (HP.out _ HWd.out).1
        | go_keep)
      (first
        | (go_at_call 15; (with_reducible refine (HAT.out _ HBd.out).mono ?_); rintro e w5 ⟨rfl, hb⟩; have HWd := Lib.hid (HWd.out.trans (hb.mono HWd.out.size)); have HYd := Lib.hid (HYd.out.trans (hb.mono HYd.out.size)); have HBd := Lib.hid (HBd.out.trans (hb.mono HBd.out.size)); clear hb p0 p1)
        | (go_at_call 16; (with_reducible refine (HCA.out _ HBd.out).mono ?_); rintro e w6 ⟨rfl, hb⟩; have HWd := Lib.hid (HWd.out.trans (hb.mono HWd.out.size)); have HYd := Lib.hid (HYd.out.trans (hb.mono HYd.out.size)); have HBd := Lib.hid (HBd.out.trans (hb.mono HBd.out.size)); clear hb))
    have HM6 := Lib.hid (And.intro (HM4a.out.1.below HYd.out) (HM4a.out.2.below HYd.out))
    have HX : Hid (∀ u, Below w6.heap.size w6 u → (u.cell? ⟨w.heap.size, 0, none⟩ = some (.slice ta tn tcap) ∧ u.cell? ⟨w.heap.size, 1, none⟩ = some (.slice ca m ccap)) ∧ (u.cell? ⟨w3.heap.size, 0, none⟩ = some (.string NT) ∧ u.cell? ⟨w3.heap.size, 1, none⟩ = some (.int .i64 sy) ∧ u.cell? ⟨w3.heap.size, 2, none⟩ = some (.bool sg) ∧ u.cell? ⟨w3.heap.size, 3, none⟩ = some (.bool op)) ∧ (u.cell? ⟨w4.heap.size, 0, none⟩ = some (.string NC) ∧ u.cell? ⟨w4.heap.size, 1, none⟩ = some (.string UC) ∧ u.cell? ⟨w4.heap.size, 2, none⟩ = some (.int .i64 kc) ∧ u.cell? ⟨w4.heap.size, 3, none⟩ = some (.slice a1 n1 c1) ∧ u.cell? ⟨w4.heap.size, 4, none⟩ = some (.slice a2 n2 c2)) ∧ Below w.heap.size w u) := Lib.hid (fun u hu => by
      have hu4 := HYd.out.trans (hu.mono HYd.out.size)
      have huw := HWd.out.trans (hu.mono HWd.out.size)
      exact ⟨(HP.out u huw).1, HX3.out u (HY4a.out.trans (hu4.mono HY4a.out.size)), HX4.out u hu4, (HP.out u huw).2⟩)
    clear HX3 HX4 HY4a HYd HWd HBd HM4a HY4 HM4 HW4 HW4a HW3 HW3a HB3a HB2 HW2 HFI HCI HAT HCA HSM
    have HSAME := Lib.hid (fun (u : World) (a b : Value) (h1 : IsNms u a CN) (h2 : IsNms u b CN) => same13_any h1 h2 (by have := HLEN.out; omega))
    rw [decide_eq_true rfl] at HSAME
    by_cases hk0 : 0 ≤ k
    · obtain ⟨x, rfl⟩ := Int.eq_ofNat_of_zero_le hk0
      have hxm : x < tn := by omega
      have hxl : x < s.types.length := by rw [HMM.out.1]; exact hxm
      have hte := HTO.out.2 hk0
      rw [Mt.tyI_get hxl] at hte
      obtain ⟨bt, ot, e0, hbl, h0, h1, h2, h3⟩ := HTS.out x hxl
      rw [← hte, HNT.out.1] at h0
      rw [← hte, HNT.out.2.1] at h1
      rw [← hte, HNT.out.2.2.1] at h2
      rw [← hte, HNT.out.2.2.2] at h3
      subst e0
      have HTY : Hid (∀ u, Below w.heap.size w u → u.cell? ⟨bt, ot + x * 4, none⟩ = some (.string NT) ∧ u.cell? ⟨bt, ot + x * 4 + 1, none⟩ = some (.int .i64 sy) ∧ u.cell? ⟨bt, ot + x * 4 + 2, none⟩ = some (.bool sg) ∧ u.cell? ⟨bt, ot + x * 4 + 3, none⟩ = some (.bool op)) := Lib.hid (fun u hu => ⟨(hu.cell (p := ⟨bt, _, none⟩) hbl).trans h0, (hu.cell (p := ⟨bt, _, none⟩) hbl).trans h1, (hu.cell (p := ⟨bt, _, none⟩) hbl).trans h2, (hu.cell (p := ⟨bt, _, none⟩) hbl).trans h3⟩)
      have hOKT : OKT = true := by rw [← HOK.out.1]; exact decide_eq_true hk0
      subst hOKT
      have x0 : (0 : Int) ≤ (x : Int) := hk0
      have x1 : (x : Int) < (tn : Int) := by omega
      have eN : (NT.toList == NT.toList) = true := beq_self_eq_true _
      have es : (sy == sy) = true := beq_self_eq_true _
      have eg : (sg == sg) = true := beq_self_eq_true _
      have eo : (op == op) = true := beq_self_eq_true _
      clear h0 h1 h2 h3 hbl hte hxl hk0
      by_cases hq0 : 0 ≤ q
      · obtain ⟨y, rfl⟩ := Int.eq_ofNat_of_zero_le hq0
        have hym : y < m := by omega
        have hyl : y < s.classes.length := by rw [HMM.out.2]; exact hym
        have hce := HCO.out.2 hq0
        rw [Mt.clI_get hyl] at hce
        obtain ⟨bc, oc, mv, yv, e1, hbl, h0, h1, h2, h3, h4, hmv, hyv⟩ := HCS.out y hyl
        have hcm := HCM.out _ (List.getElem_mem hyl)
        rw [← hce] at hmv hyv hcm
        rw [← hce, HNC.out.1] at h0
        rw [← hce, HNC.out.2.1] at h1
        rw [← hce, HNC.out.2.2] at h2
        subst e1
        obtain ⟨am, cm, rfl, -, -⟩ := id hmv
        obtain ⟨ay, cy, rfl, -, -⟩ := id hyv
        have HSC : Hid (∀ u, Below w6.heap.size w6 u → Calls Try.prog 17 #[.agg #[.string NC, .string UC, .int .i64 kc, .slice a1 n1 c1, .slice a2 n2 c2], .agg #[.string NC, .string UC, .int .i64 kc, .slice am CO.must.length cm, .slice ay CO.may.length cy]] u fun e w' => e = .returned (.bool true) ∧ Below u.heap.size u w') := Lib.hid (fun u hu => sameClass_any (HM6.out.1.below hu) (HM6.out.2.below hu) (hmv.below (HX.out u hu).2.2.2) (hyv.below (HX.out u hu).2.2.2) hcm.2.2.1 hcm.2.2.2.1)
        obtain ⟨ml, hml⟩ : ∃ x, CO.must.length = x := ⟨_, rfl⟩
        obtain ⟨yl, hyl2⟩ : ∃ x, CO.may.length = x := ⟨_, rfl⟩
        rw [hml, hyl2] at HSC
        rw [hml] at h3
        rw [hyl2] at h4
        have HCY : Hid (∀ u, Below w.heap.size w u → u.cell? ⟨bc, oc + y * 5, none⟩ = some (.string NC) ∧ u.cell? ⟨bc, oc + y * 5 + 1, none⟩ = some (.string UC) ∧ u.cell? ⟨bc, oc + y * 5 + 2, none⟩ = some (.int .i64 kc) ∧ u.cell? ⟨bc, oc + y * 5 + 3, none⟩ = some (.slice am ml cm) ∧ u.cell? ⟨bc, oc + y * 5 + 4, none⟩ = some (.slice ay yl cy)) := Lib.hid (fun u hu => ⟨(hu.cell (p := ⟨bc, _, none⟩) hbl).trans h0, (hu.cell (p := ⟨bc, _, none⟩) hbl).trans h1, (hu.cell (p := ⟨bc, _, none⟩) hbl).trans h2, (hu.cell (p := ⟨bc, _, none⟩) hbl).trans h3, (hu.cell (p := ⟨bc, _, none⟩) hbl).trans h4⟩)
        have hOKC : OKC = true := by rw [← HOK.out.2]; exact decide_eq_true hq0
        subst hOKC
        have y0' : (0 : Int) ≤ (y : Int) := hq0
        have y1' : (y : Int) < (m : Int) := by omega
        clear h0 h1 h2 h3 h4 hbl hce hyl hq0 hmv hyv hcm hml hyl2
        go_upto_region 6 with fail
        generalize hF : (Act.mk _ _) = F
        have HF2 : Hid (F.tmps[2]? = some (.pointer (some ⟨w.heap.size, 0, none⟩))) := Lib.hid (by rw [← hF]; rfl)
        have HF5 : Hid (F.tmps[5]? = some (.pointer (some ⟨w3.heap.size, 0, none⟩))) := Lib.hid (by rw [← hF]; rfl)
        have HF6 : Hid (F.tmps[6]? = some (.bool true)) := Lib.hid (by rw [← hF]; rfl)
        have HF7 : Hid (F.tmps[7]? = some (.pointer (some ⟨w4.heap.size, 0, none⟩))) := Lib.hid (by rw [← hF]; rfl)
        have HF8 : Hid (F.tmps[8]? = some (.bool true)) := Lib.hid (by rw [← hF]; rfl)
        have HF9 : Hid (F.tmps[9]? = some (.int .i64 (x : Int))) := Lib.hid (by rw [← hF]; rfl)
        have HF10 : Hid (F.tmps[10]? = some (.int .i64 (y : Int))) := Lib.hid (by rw [← hF]; rfl)
        have HSZ : Hid (injD (fun i => 35 + i) 35 F.tmps.size = true) := Lib.hid (by rw [show F.tmps.size = 96 by rw [← hF]; rfl]; decide +kernel)
        have HF := Lib.hid hF
        clear hF
        refine wp_region_some (by kernel_rfl) F (fun i => 35 + i) [.bool true, .int .i64 (x : Int), .bool true, .bool false, .bool false, .bool true, .int .i64 (y : Int), .bool true, .bool false, .bool false, .bool false, .bool true, .bool true, .agg #[.string NT, .int .i64 sy, .bool sg, .bool op], .pointer (some ⟨w.heap.size, 0, none⟩), .slice (some ⟨bt, ot, none⟩) tn tcap, .int .i64 (x : Int), .pointer (some ⟨bt, ot + x * 4, none⟩), .agg #[.string NT, .int .i64 sy, .bool sg, .bool op], .bool false, .bool false, .bool false, .bool false, .bool true, .bool true, .agg #[.string NC, .string UC, .int .i64 kc, .slice a1 n1 c1, .slice a2 n2 c2], .pointer (some ⟨w.heap.size, 1, none⟩), .slice (some ⟨bc, oc, none⟩) m ccap, .int .i64 (y : Int), .pointer (some ⟨bc, oc + y * 5, none⟩), .agg #[.string NC, .string UC, .int .i64 kc, .slice am ml cm, .slice ay yl cy], .bool true, .bool false, .bool false, .bool false] (fun _ => false) (fun _ _ _ => True) w6 35 (fun _ _ _ _ _ _ => trivial) rfl rfl HSZ.out (by kernel_rfl) (by kernel_rfl) ?step ?fin
        case step =>
          intro i o ho a X u hu hout hd hX
          match i, ho with
          | 0, ho =>
            obtain rfl := Option.some.inj ho
            have f6 : a.tmps[6]? = some (.bool true) := (hout 6 (by decide)).trans HF6.out
            clear hd ho hout hX
            refine wpOp_step rfl (fun K' hK' => ?_)
            go_simp
            exact hK' _ _ ⟨fun _ => rfl, fun h => absurd h (by decide), Below.refl _ _⟩
          | 1, ho =>
            obtain rfl := Option.some.inj ho
            have f9 : a.tmps[9]? = some (.int .i64 (x : Int)) := (hout 9 (by decide)).trans HF9.out
            clear hd ho hout hX
            refine wpOp_step rfl (fun K' hK' => ?_)
            go_simp
            exact hK' _ _ ⟨fun _ => rfl, fun h => absurd h (by decide), Below.refl _ _⟩
          | 2, ho =>
            obtain rfl := Option.some.inj ho
            have e1' : a.tmps[36]? = some (.int .i64 (x : Int)) := hd 1 rfl rfl
            clear hd ho hout hX
            refine wpOp_step rfl (fun K' hK' => ?_)
            go_simp
            exact hK' _ _ ⟨fun _ => rfl, fun h => absurd h (by decide), Below.refl _ _⟩
          | 3, ho =>
            obtain rfl := Option.some.inj ho
            have e0' : a.tmps[35]? = some (.bool true) := hd 0 rfl rfl
            have e2' : a.tmps[37]? = some (.bool true) := hd 2 rfl rfl
            clear hd ho hout hX
            refine wpOp_step rfl (fun K' hK' => ?_)
            go_simp
            exact hK' _ _ ⟨fun _ => rfl, fun h => absurd h (by decide), Below.refl _ _⟩
          | 4, ho =>
            obtain rfl := Option.some.inj ho
            have e3' : a.tmps[38]? = some (.bool false) := hd 3 rfl rfl
            clear hd ho hout hX
            refine wpOp_step rfl (fun K' hK' => ?_)
            go_simp
            exact hK' _ _ ⟨fun _ => rfl, fun h => absurd h (by decide), Below.refl _ _⟩
          | 5, ho =>
            obtain rfl := Option.some.inj ho
            have e4' : a.tmps[39]? = some (.bool false) := hd 4 rfl rfl
            have f8 : a.tmps[8]? = some (.bool true) := (hout 8 (by decide)).trans HF8.out
            clear hd ho hout hX
            refine wpOp_step rfl (fun K' hK' => ?_)
            go_simp
            exact hK' _ _ ⟨fun _ => rfl, fun h => absurd h (by decide), Below.refl _ _⟩
          | 6, ho =>
            obtain rfl := Option.some.inj ho
            have e4' : a.tmps[39]? = some (.bool false) := hd 4 rfl rfl
            have f10 : a.tmps[10]? = some (.int .i64 (y : Int)) := (hout 10 (by decide)).trans HF10.out
            clear hd ho hout hX
            refine wpOp_step rfl (fun K' hK' => ?_)
            go_simp
            exact hK' _ _ ⟨fun _ => rfl, fun h => absurd h (by decide), Below.refl _ _⟩
          | 7, ho =>
            obtain rfl := Option.some.inj ho
            have e4' : a.tmps[39]? = some (.bool false) := hd 4 rfl rfl
            have e6' : a.tmps[41]? = some (.int .i64 (y : Int)) := hd 6 rfl rfl
            clear hd ho hout hX
            refine wpOp_step rfl (fun K' hK' => ?_)
            go_simp
            exact hK' _ _ ⟨fun _ => rfl, fun h => absurd h (by decide), Below.refl _ _⟩
          | 8, ho =>
            obtain rfl := Option.some.inj ho
            have e4' : a.tmps[39]? = some (.bool false) := hd 4 rfl rfl
            have e5' : a.tmps[40]? = some (.bool true) := hd 5 rfl rfl
            have e7' : a.tmps[42]? = some (.bool true) := hd 7 rfl rfl
            clear hd ho hout hX
            refine wpOp_step rfl (fun K' hK' => ?_)
            go_simp
            exact hK' _ _ ⟨fun _ => rfl, fun h => absurd h (by decide), Below.refl _ _⟩
          | 9, ho =>
            obtain rfl := Option.some.inj ho
            have e4' : a.tmps[39]? = some (.bool false) := hd 4 rfl rfl
            have e8' : a.tmps[43]? = some (.bool false) := hd 8 rfl rfl
            clear hd ho hout hX
            refine wpOp_step rfl (fun K' hK' => ?_)
            go_simp
            exact hK' _ _ ⟨fun _ => rfl, fun h => absurd h (by decide), Below.refl _ _⟩
          | 10, ho =>
            obtain rfl := Option.some.inj ho
            have e9' : a.tmps[44]? = some (.bool false) := hd 9 rfl rfl
            clear hd ho hout hX
            refine wpOp_step rfl (fun K' hK' => ?_)
            go_simp
            exact hK' _ _ ⟨fun _ => rfl, fun h => absurd h (by decide), Below.refl _ _⟩
          | 11, ho =>
            obtain rfl := Option.some.inj ho
            have e10' : a.tmps[45]? = some (.bool false) := hd 10 rfl rfl
            have f6 : a.tmps[6]? = some (.bool true) := (hout 6 (by decide)).trans HF6.out
            clear hd ho hout hX
            refine wpOp_step rfl (fun K' hK' => ?_)
            go_simp
            exact hK' _ _ ⟨fun _ => rfl, fun h => absurd h (by decide), Below.refl _ _⟩
          | 12, ho =>
            obtain rfl := Option.some.inj ho
            have e10' : a.tmps[45]? = some (.bool false) := hd 10 rfl rfl
            have e11' : a.tmps[46]? = some (.bool true) := hd 11 rfl rfl
            clear hd ho hout hX
            refine wpOp_step rfl (fun K' hK' => ?_)
            go_simp
            exact hK' _ _ ⟨fun _ => rfl, fun h => absurd h (by decide), Below.refl _ _⟩
          | 13, ho =>
            obtain rfl := Option.some.inj ho
            have e12' : a.tmps[47]? = some (.bool true) := hd 12 rfl rfl
            have f5 : a.tmps[5]? = some (.pointer (some ⟨w3.heap.size, 0, none⟩)) := (hout 5 (by decide)).trans HF5.out
            clear hd ho hout hX
            refine wpOp_step rfl (fun K' hK' => ?_)
            obtain ⟨⟨p0, p1⟩, ⟨z0, z1, z2, z3⟩, ⟨g0, g1, g2, g3, g4⟩, hBu⟩ := HX.out _ hu
            go_simp
            exact hK' _ _ ⟨fun _ => rfl, fun h => absurd h (by decide), Below.refl _ _⟩
          | 14, ho =>
            obtain rfl := Option.some.inj ho
            have e12' : a.tmps[47]? = some (.bool true) := hd 12 rfl rfl
            have f2 : a.tmps[2]? = some (.pointer (some ⟨w.heap.size, 0, none⟩)) := (hout 2 (by decide)).trans HF2.out
            clear hd ho hout hX
            refine wpOp_step rfl (fun K' hK' => ?_)
            go_simp
            exact hK' _ _ ⟨fun _ => rfl, fun h => absurd h (by decide), Below.refl _ _⟩
          | 15, ho =>
            obtain rfl := Option.some.inj ho
            have e12' : a.tmps[47]? = some (.bool true) := hd 12 rfl rfl
            have e14' : a.tmps[49]? = some (.pointer (some ⟨w.heap.size, 0, none⟩)) := hd 14 rfl rfl
            clear hd ho hout hX
            refine wpOp_step rfl (fun K' hK' => ?_)
            obtain ⟨⟨p0, p1⟩, ⟨z0, z1, z2, z3⟩, ⟨g0, g1, g2, g3, g4⟩, hBu⟩ := HX.out _ hu
            go_simp
            exact hK' _ _ ⟨fun _ => rfl, fun h => absurd h (by decide), Below.refl _ _⟩
          | 16, ho =>
            obtain rfl := Option.some.inj ho
            have e12' : a.tmps[47]? = some (.bool true) := hd 12 rfl rfl
            have f9 : a.tmps[9]? = some (.int .i64 (x : Int)) := (hout 9 (by decide)).trans HF9.out
            clear hd ho hout hX
            refine wpOp_step rfl (fun K' hK' => ?_)
            go_simp
            exact hK' _ _ ⟨fun _ => rfl, fun h => absurd h (by decide), Below.refl _ _⟩
          | 17, ho =>
            obtain rfl := Option.some.inj ho
            have e12' : a.tmps[47]? = some (.bool true) := hd 12 rfl rfl
            have e15' : a.tmps[50]? = some (.slice (some ⟨bt, ot, none⟩) tn tcap) := hd 15 rfl rfl
            have e16' : a.tmps[51]? = some (.int .i64 (x : Int)) := hd 16 rfl rfl
            clear hd ho hout hX
            refine wpOp_step rfl (fun K' hK' => ?_)
            go_simp
            exact hK' _ _ ⟨fun _ => rfl, fun h => absurd h (by decide), Below.refl _ _⟩
          | 18, ho =>
            obtain rfl := Option.some.inj ho
            have e12' : a.tmps[47]? = some (.bool true) := hd 12 rfl rfl
            have e17' : a.tmps[52]? = some (.pointer (some ⟨bt, ot + x * 4, none⟩)) := hd 17 rfl rfl
            clear hd ho hout hX
            refine wpOp_step rfl (fun K' hK' => ?_)
            obtain ⟨⟨p0, p1⟩, ⟨z0, z1, z2, z3⟩, ⟨g0, g1, g2, g3, g4⟩, hBu⟩ := HX.out _ hu; obtain ⟨y0, y1, y2, y3⟩ := HTY.out _ hBu
            go_simp
            exact hK' _ _ ⟨fun _ => rfl, fun h => absurd h (by decide), Below.refl _ _⟩
          | 19, ho =>
            obtain rfl := Option.some.inj ho
            have e12' : a.tmps[47]? = some (.bool true) := hd 12 rfl rfl
            have e13' : a.tmps[48]? = some (.agg #[.string NT, .int .i64 sy, .bool sg, .bool op]) := hd 13 rfl rfl
            have e18' : a.tmps[53]? = some (.agg #[.string NT, .int .i64 sy, .bool sg, .bool op]) := hd 18 rfl rfl
            clear hd ho hout hX
            refine wpOp_step rfl (fun K' hK' => ?_)
            go_simp
            exact hK' _ _ ⟨fun _ => rfl, fun h => absurd h (by decide), Below.refl _ _⟩
          | 20, ho =>
            obtain rfl := Option.some.inj ho
            have e10' : a.tmps[45]? = some (.bool false) := hd 10 rfl rfl
            have e12' : a.tmps[47]? = some (.bool true) := hd 12 rfl rfl
            have e19' : a.tmps[54]? = some (.bool false) := hd 19 rfl rfl
            clear hd ho hout hX
            refine wpOp_step rfl (fun K' hK' => ?_)
            go_simp
            exact hK' _ _ ⟨fun _ => rfl, fun h => absurd h (by decide), Below.refl _ _⟩
          | 21, ho =>
            obtain rfl := Option.some.inj ho
            have e10' : a.tmps[45]? = some (.bool false) := hd 10 rfl rfl
            have e20' : a.tmps[55]? = some (.bool false) := hd 20 rfl rfl
            clear hd ho hout hX
            refine wpOp_step rfl (fun K' hK' => ?_)
            go_simp
            exact hK' _ _ ⟨fun _ => rfl, fun h => absurd h (by decide), Below.refl _ _⟩
          | 22, ho =>
            obtain rfl := Option.some.inj ho
            have e21' : a.tmps[56]? = some (.bool false) := hd 21 rfl rfl
            clear hd ho hout hX
            refine wpOp_step rfl (fun K' hK' => ?_)
            go_simp
            exact hK' _ _ ⟨fun _ => rfl, fun h => absurd h (by decide), Below.refl _ _⟩
          | 23, ho =>
            obtain rfl := Option.some.inj ho
            have e22' : a.tmps[57]? = some (.bool false) := hd 22 rfl rfl
            have f8 : a.tmps[8]? = some (.bool true) := (hout 8 (by decide)).trans HF8.out
            clear hd ho hout hX
            refine wpOp_step rfl (fun K' hK' => ?_)
            go_simp
            exact hK' _ _ ⟨fun _ => rfl, fun h => absurd h (by decide), Below.refl _ _⟩
          | 24, ho =>
            obtain rfl := Option.some.inj ho
            have e22' : a.tmps[57]? = some (.bool false) := hd 22 rfl rfl
            have e23' : a.tmps[58]? = some (.bool true) := hd 23 rfl rfl
            clear hd ho hout hX
            refine wpOp_step rfl (fun K' hK' => ?_)
            go_simp
            exact hK' _ _ ⟨fun _ => rfl, fun h => absurd h (by decide), Below.refl _ _⟩
          | 25, ho =>
            obtain rfl := Option.some.inj ho
            have e24' : a.tmps[59]? = some (.bool true) := hd 24 rfl rfl
            have f7 : a.tmps[7]? = some (.pointer (some ⟨w4.heap.size, 0, none⟩)) := (hout 7 (by decide)).trans HF7.out
            clear hd ho hout hX
            refine wpOp_step rfl (fun K' hK' => ?_)
            obtain ⟨⟨p0, p1⟩, ⟨z0, z1, z2, z3⟩, ⟨g0, g1, g2, g3, g4⟩, hBu⟩ := HX.out _ hu
            go_simp
            exact hK' _ _ ⟨fun _ => rfl, fun h => absurd h (by decide), Below.refl _ _⟩
          | 26, ho =>
            obtain rfl := Option.some.inj ho
            have e24' : a.tmps[59]? = some (.bool true) := hd 24 rfl rfl
            have f2 : a.tmps[2]? = some (.pointer (some ⟨w.heap.size, 0, none⟩)) := (hout 2 (by decide)).trans HF2.out
            clear hd ho hout hX
            refine wpOp_step rfl (fun K' hK' => ?_)
            go_simp
            exact hK' _ _ ⟨fun _ => rfl, fun h => absurd h (by decide), Below.refl _ _⟩
          | 27, ho =>
            obtain rfl := Option.some.inj ho
            have e24' : a.tmps[59]? = some (.bool true) := hd 24 rfl rfl
            have e26' : a.tmps[61]? = some (.pointer (some ⟨w.heap.size, 1, none⟩)) := hd 26 rfl rfl
            clear hd ho hout hX
            refine wpOp_step rfl (fun K' hK' => ?_)
            obtain ⟨⟨p0, p1⟩, ⟨z0, z1, z2, z3⟩, ⟨g0, g1, g2, g3, g4⟩, hBu⟩ := HX.out _ hu
            go_simp
            exact hK' _ _ ⟨fun _ => rfl, fun h => absurd h (by decide), Below.refl _ _⟩
          | 28, ho =>
            obtain rfl := Option.some.inj ho
            have e24' : a.tmps[59]? = some (.bool true) := hd 24 rfl rfl
            have f10 : a.tmps[10]? = some (.int .i64 (y : Int)) := (hout 10 (by decide)).trans HF10.out
            clear hd ho hout hX
            refine wpOp_step rfl (fun K' hK' => ?_)
            go_simp
            exact hK' _ _ ⟨fun _ => rfl, fun h => absurd h (by decide), Below.refl _ _⟩
          | 29, ho =>
            obtain rfl := Option.some.inj ho
            have e24' : a.tmps[59]? = some (.bool true) := hd 24 rfl rfl
            have e27' : a.tmps[62]? = some (.slice (some ⟨bc, oc, none⟩) m ccap) := hd 27 rfl rfl
            have e28' : a.tmps[63]? = some (.int .i64 (y : Int)) := hd 28 rfl rfl
            clear hd ho hout hX
            refine wpOp_step rfl (fun K' hK' => ?_)
            go_simp
            exact hK' _ _ ⟨fun _ => rfl, fun h => absurd h (by decide), Below.refl _ _⟩
          | 30, ho =>
            obtain rfl := Option.some.inj ho
            have e24' : a.tmps[59]? = some (.bool true) := hd 24 rfl rfl
            have e29' : a.tmps[64]? = some (.pointer (some ⟨bc, oc + y * 5, none⟩)) := hd 29 rfl rfl
            clear hd ho hout hX
            refine wpOp_step rfl (fun K' hK' => ?_)
            obtain ⟨⟨p0, p1⟩, ⟨z0, z1, z2, z3⟩, ⟨g0, g1, g2, g3, g4⟩, hBu⟩ := HX.out _ hu; obtain ⟨y0, y1, y2, y3, y4⟩ := HCY.out _ hBu
            go_simp
            exact hK' _ _ ⟨fun _ => rfl, fun h => absurd h (by decide), Below.refl _ _⟩
          | 31, ho =>
            obtain rfl := Option.some.inj ho
            have e24' : a.tmps[59]? = some (.bool true) := hd 24 rfl rfl
            have e25' : a.tmps[60]? = some (.agg #[.string NC, .string UC, .int .i64 kc, .slice a1 n1 c1, .slice a2 n2 c2]) := hd 25 rfl rfl
            have e30' : a.tmps[65]? = some (.agg #[.string NC, .string UC, .int .i64 kc, .slice am ml cm, .slice ay yl cy]) := hd 30 rfl rfl
            clear hd ho hout hX
            refine wpOp_step rfl (fun K' hK' => ?_)
            go_simp
            refine (HSC.out _ hu).mono ?_
            rintro e w9 ⟨rfl, hb9⟩
            exact hK' _ _ ⟨fun _ => rfl, fun h => absurd h (by decide), hb9⟩
          | 32, ho =>
            obtain rfl := Option.some.inj ho
            have e24' : a.tmps[59]? = some (.bool true) := hd 24 rfl rfl
            have e31' : a.tmps[66]? = some (.bool true) := hd 31 rfl rfl
            clear hd ho hout hX
            refine wpOp_step rfl (fun K' hK' => ?_)
            go_simp
            exact hK' _ _ ⟨fun _ => rfl, fun h => absurd h (by decide), Below.refl _ _⟩
          | 33, ho =>
            obtain rfl := Option.some.inj ho
            have e22' : a.tmps[57]? = some (.bool false) := hd 22 rfl rfl
            have e24' : a.tmps[59]? = some (.bool true) := hd 24 rfl rfl
            have e32' : a.tmps[67]? = some (.bool false) := hd 32 rfl rfl
            clear hd ho hout hX
            refine wpOp_step rfl (fun K' hK' => ?_)
            go_simp
            exact hK' _ _ ⟨fun _ => rfl, fun h => absurd h (by decide), Below.refl _ _⟩
          | 34, ho =>
            obtain rfl := Option.some.inj ho
            have e22' : a.tmps[57]? = some (.bool false) := hd 22 rfl rfl
            have e33' : a.tmps[68]? = some (.bool false) := hd 33 rfl rfl
            clear hd ho hout hX
            refine wpOp_step rfl (fun K' hK' => ?_)
            go_simp
            exact hK' _ _ ⟨fun _ => rfl, fun h => absurd h (by decide), Below.refl _ _⟩
          | i + 35, ho => cases ho
        case fin =>
          intro v u hbu hv hg
          have hvv := setD_congr F.tmps (fun i => 35 + i) 35 v (fun i => ([.bool true, .int .i64 (x : Int), .bool true, .bool false, .bool false, .bool true, .int .i64 (y : Int), .bool true, .bool false, .bool false, .bool false, .bool true, .bool true, .agg #[.string NT, .int .i64 sy, .bool sg, .bool op], .pointer (some ⟨w.heap.size, 0, none⟩), .slice (some ⟨bt, ot, none⟩) tn tcap, .int .i64 (x : Int), .pointer (some ⟨bt, ot + x * 4, none⟩), .agg #[.string NT, .int .i64 sy, .bool sg, .bool op], .bool false, .bool false, .bool false, .bool false, .bool true, .bool true, .agg #[.string NC, .string UC, .int .i64 kc, .slice a1 n1 c1, .slice a2 n2 c2], .pointer (some ⟨w.heap.size, 1, none⟩), .slice (some ⟨bc, oc, none⟩) m ccap, .int .i64 (y : Int), .pointer (some ⟨bc, oc + y * 5, none⟩), .agg #[.string NC, .string UC, .int .i64 kc, .slice am ml cm, .slice ay yl cy], .bool true, .bool false, .bool false, .bool false] : List Value).getD i undef) (fun i hi => by
            rw [List.getD_eq_getElem?_getD, hv i hi rfl]; rfl)
          rw [hvv, ← HF.out]
          clear hvv hv HF HSZ HF2 HF5 HF6 HF7 HF8 HF9 HF10
          simp only [setD, List.getD_cons_zero, List.getD_cons_succ, Nat.reduceAdd, List.setIfInBounds_toArray, List.set_cons_succ, List.set_cons_zero, if_true, if_false, reduceIte, Nat.reduceEqDiff]
          have HXU := Lib.hid (fun (u' : World) (hu' : Below u.heap.size u u') => HX.out u' (hbu.trans (hu'.mono hbu.size)))
          have HU6 := Lib.hid (fun (u' : World) (hu' : Below u.heap.size u u') => hbu.trans (hu'.mono hbu.size))
          clear hg hbu
          go_upto_region 8 with fail
          generalize hF : (Act.mk _ _) = F
          have HF1 : Hid (F.tmps[1]? = some (.string NB)) := Lib.hid (by rw [← hF]; rfl)
          have HF2 : Hid (F.tmps[2]? = some (.pointer (some ⟨w.heap.size, 0, none⟩))) := Lib.hid (by rw [← hF]; rfl)
          have HF5 : Hid (F.tmps[5]? = some (.pointer (some ⟨w3.heap.size, 0, none⟩))) := Lib.hid (by rw [← hF]; rfl)
          have HF6 : Hid (F.tmps[6]? = some (.bool true)) := Lib.hid (by rw [← hF]; rfl)
          have HF7 : Hid (F.tmps[7]? = some (.pointer (some ⟨w4.heap.size, 0, none⟩))) := Lib.hid (by rw [← hF]; rfl)
          have HF8 : Hid (F.tmps[8]? = some (.bool true)) := Lib.hid (by rw [← hF]; rfl)
          have HSZ : Hid (injD (fun i => if i = 26 then 4 else 70 + i) 27 F.tmps.size = true) := Lib.hid (by rw [show F.tmps.size = 96 by rw [← hF]; rfl]; decide +kernel)
          have HF := Lib.hid hF
          clear hF
          refine wp_region_some (by kernel_rfl) F (fun i => if i = 26 then 4 else 70 + i) [.bool true, .bool true, .agg #[.slice (some ⟨bt, ot, none⟩) tn tcap, .slice (some ⟨bc, oc, none⟩) m ccap], .string NB, undef, .agg #[.slice (some ⟨bt, ot, none⟩) tn tcap, .slice (some ⟨bc, oc, none⟩) m ccap], .string NB, undef, .bool true, .bool true, .bool true, .bool true, .bool true, undef, undef, undef, .bool true, .bool true, .bool true, .bool true, .bool true, undef, undef, undef, .bool true, .bool true, .bool true] (fun i => i == 4 || i == 7) (fun _ x u => IsNms u x CN) u 27 (fun _ x u u' hb h => h.below hb) rfl rfl HSZ.out (by kernel_rfl) (by kernel_rfl) ?step ?fin
          case step =>
            intro i o ho a X u hu hout hd hX
            match i, ho with
            | 0, ho =>
              obtain rfl := Option.some.inj ho
              clear hd ho hout hX
              refine wpOp_step rfl (fun K' hK' => ?_)
              go_simp
              refine (HA.out _).mono ?_
              rintro e w9 ⟨rfl, hb9⟩
              exact hK' _ _ ⟨fun _ => rfl, fun h => absurd h (by decide), hb9⟩
            | 1, ho =>
              obtain rfl := Option.some.inj ho
              have e0' : a.tmps[70]? = some (.bool true) := hd 0 rfl rfl
              clear hd ho hout hX
              refine wpOp_step rfl (fun K' hK' => ?_)
              go_simp
              exact hK' _ _ ⟨fun _ => rfl, fun h => absurd h (by decide), Below.refl _ _⟩
            | 2, ho =>
              obtain rfl := Option.some.inj ho
              have e1' : a.tmps[71]? = some (.bool true) := hd 1 rfl rfl
              have f2 : a.tmps[2]? = some (.pointer (some ⟨w.heap.size, 0, none⟩)) := (hout 2 (by decide)).trans HF2.out
              clear hd ho hout hX
              refine wpOp_step rfl (fun K' hK' => ?_)
              obtain ⟨⟨p0, p1⟩, ⟨z0, z1, z2, z3⟩, ⟨g0, g1, g2, g3, g4⟩, hBu⟩ := HXU.out _ hu
              go_simp
              exact hK' _ _ ⟨fun _ => rfl, fun h => absurd h (by decide), Below.refl _ _⟩
            | 3, ho =>
              obtain rfl := Option.some.inj ho
              have e1' : a.tmps[71]? = some (.bool true) := hd 1 rfl rfl
              have f1 : a.tmps[1]? = some (.string NB) := (hout 1 (by decide)).trans HF1.out
              clear hd ho hout hX
              refine wpOp_step rfl (fun K' hK' => ?_)
              go_simp
              exact hK' _ _ ⟨fun _ => rfl, fun h => absurd h (by decide), Below.refl _ _⟩
            | 4, ho =>
              obtain rfl := Option.some.inj ho
              have e1' : a.tmps[71]? = some (.bool true) := hd 1 rfl rfl
              have e2' : a.tmps[72]? = some (.agg #[.slice (some ⟨bt, ot, none⟩) tn tcap, .slice (some ⟨bc, oc, none⟩) m ccap]) := hd 2 rfl rfl
              have e3' : a.tmps[73]? = some (.string NB) := hd 3 rfl rfl
              clear hd ho hout hX
              refine wpOp_step rfl (fun K' hK' => ?_)
              go_simp
              refine (HCH.out _ (HXU.out _ hu).2.2.2).mono ?_
              rintro e w9 ⟨v9, rfl, hown, hb9⟩
              exact hK' _ _ ⟨fun h => absurd h (by decide), fun _ => ⟨v9, rfl, IsOwn.nms hown⟩, hb9⟩
            | 5, ho =>
              obtain rfl := Option.some.inj ho
              have e1' : a.tmps[71]? = some (.bool true) := hd 1 rfl rfl
              have f2 : a.tmps[2]? = some (.pointer (some ⟨w.heap.size, 0, none⟩)) := (hout 2 (by decide)).trans HF2.out
              clear hd ho hout hX
              refine wpOp_step rfl (fun K' hK' => ?_)
              obtain ⟨⟨p0, p1⟩, ⟨z0, z1, z2, z3⟩, ⟨g0, g1, g2, g3, g4⟩, hBu⟩ := HXU.out _ hu
              go_simp
              exact hK' _ _ ⟨fun _ => rfl, fun h => absurd h (by decide), Below.refl _ _⟩
            | 6, ho =>
              obtain rfl := Option.some.inj ho
              have e1' : a.tmps[71]? = some (.bool true) := hd 1 rfl rfl
              have f1 : a.tmps[1]? = some (.string NB) := (hout 1 (by decide)).trans HF1.out
              clear hd ho hout hX
              refine wpOp_step rfl (fun K' hK' => ?_)
              go_simp
              exact hK' _ _ ⟨fun _ => rfl, fun h => absurd h (by decide), Below.refl _ _⟩
            | 7, ho =>
              obtain rfl := Option.some.inj ho
              have e1' : a.tmps[71]? = some (.bool true) := hd 1 rfl rfl
              have e5' : a.tmps[75]? = some (.agg #[.slice (some ⟨bt, ot, none⟩) tn tcap, .slice (some ⟨bc, oc, none⟩) m ccap]) := hd 5 rfl rfl
              have e6' : a.tmps[76]? = some (.string NB) := hd 6 rfl rfl
              clear hd ho hout hX
              refine wpOp_step rfl (fun K' hK' => ?_)
              go_simp
              refine (HRC.out HK0.out _ (HXU.out _ hu).2.2.2).mono ?_
              rintro e w9 ⟨v9, rfl, hown, hb9⟩
              exact hK' _ _ ⟨fun h => absurd h (by decide), fun _ => ⟨v9, rfl, IsOwn.nms hown⟩, hb9⟩
            | 8, ho =>
              obtain rfl := Option.some.inj ho
              have e1' : a.tmps[71]? = some (.bool true) := hd 1 rfl rfl
              obtain ⟨hx4', hg4'⟩ := hX 4 rfl rfl
              have hx4 : a.tmps[74]? = some (X 4) := hx4'
              have hg4 : IsNms u (X 4) CN := hg4'
              clear hx4' hg4'
              generalize X 4 = x4v at *
              obtain ⟨hx7', hg7'⟩ := hX 7 rfl rfl
              have hx7 : a.tmps[77]? = some (X 7) := hx7'
              have hg7 : IsNms u (X 7) CN := hg7'
              clear hx7' hg7'
              generalize X 7 = x7v at *
              clear hd ho hout hX
              refine wpOp_step rfl (fun K' hK' => ?_)
              go_simp
              refine (HSAME.out _ _ _ hg4 hg7).mono ?_
              rintro e w9 ⟨rfl, hb9⟩
              exact hK' _ _ ⟨fun _ => rfl, fun h => absurd h (by decide), hb9⟩
            | 9, ho =>
              obtain rfl := Option.some.inj ho
              have e1' : a.tmps[71]? = some (.bool true) := hd 1 rfl rfl
              have e8' : a.tmps[78]? = some (.bool true) := hd 8 rfl rfl
              clear hd ho hout hX
              refine wpOp_step rfl (fun K' hK' => ?_)
              go_simp
              exact hK' _ _ ⟨fun _ => rfl, fun h => absurd h (by decide), Below.refl _ _⟩
            | 10, ho =>
              obtain rfl := Option.some.inj ho
              have e9' : a.tmps[79]? = some (.bool true) := hd 9 rfl rfl
              clear hd ho hout hX
              refine wpOp_step rfl (fun K' hK' => ?_)
              go_simp
              exact hK' _ _ ⟨fun _ => rfl, fun h => absurd h (by decide), Below.refl _ _⟩
            | 11, ho =>
              obtain rfl := Option.some.inj ho
              have e10' : a.tmps[80]? = some (.bool true) := hd 10 rfl rfl
              have f6 : a.tmps[6]? = some (.bool true) := (hout 6 (by decide)).trans HF6.out
              clear hd ho hout hX
              refine wpOp_step rfl (fun K' hK' => ?_)
              go_simp
              exact hK' _ _ ⟨fun _ => rfl, fun h => absurd h (by decide), Below.refl _ _⟩
            | 12, ho =>
              obtain rfl := Option.some.inj ho
              have e10' : a.tmps[80]? = some (.bool true) := hd 10 rfl rfl
              have e11' : a.tmps[81]? = some (.bool true) := hd 11 rfl rfl
              clear hd ho hout hX
              refine wpOp_step rfl (fun K' hK' => ?_)
              go_simp
              exact hK' _ _ ⟨fun _ => rfl, fun h => absurd h (by decide), Below.refl _ _⟩
            | 13, ho =>
              obtain rfl := Option.some.inj ho
              have e12' : a.tmps[82]? = some (.bool true) := hd 12 rfl rfl
              have f5 : a.tmps[5]? = some (.pointer (some ⟨w3.heap.size, 0, none⟩)) := (hout 5 (by decide)).trans HF5.out
              clear hd ho hout hX
              refine wpOp_step rfl (fun K' hK' => ?_)
              go_simp
              exact hK' _ _ ⟨fun _ => rfl, fun h => absurd h (by decide), Below.refl _ _⟩
            | 14, ho =>
              obtain rfl := Option.some.inj ho
              have e12' : a.tmps[82]? = some (.bool true) := hd 12 rfl rfl
              clear hd ho hout hX
              refine wpOp_step rfl (fun K' hK' => ?_)
              go_simp
              exact hK' _ _ ⟨fun _ => rfl, fun h => absurd h (by decide), Below.refl _ _⟩
            | 15, ho =>
              obtain rfl := Option.some.inj ho
              have e12' : a.tmps[82]? = some (.bool true) := hd 12 rfl rfl
              have e13' : a.tmps[83]? = some (undef) := hd 13 rfl rfl
              have e14' : a.tmps[84]? = some (undef) := hd 14 rfl rfl
              clear hd ho hout hX
              refine wpOp_step rfl (fun K' hK' => ?_)
              go_simp
              exact hK' _ _ ⟨fun _ => rfl, fun h => absurd h (by decide), Below.refl _ _⟩
            | 16, ho =>
              obtain rfl := Option.some.inj ho
              have e10' : a.tmps[80]? = some (.bool true) := hd 10 rfl rfl
              have e12' : a.tmps[82]? = some (.bool true) := hd 12 rfl rfl
              have e15' : a.tmps[85]? = some (undef) := hd 15 rfl rfl
              clear hd ho hout hX
              refine wpOp_step rfl (fun K' hK' => ?_)
              go_simp
              exact hK' _ _ ⟨fun _ => rfl, fun h => absurd h (by decide), Below.refl _ _⟩
            | 17, ho =>
              obtain rfl := Option.some.inj ho
              have e10' : a.tmps[80]? = some (.bool true) := hd 10 rfl rfl
              have e16' : a.tmps[86]? = some (.bool true) := hd 16 rfl rfl
              clear hd ho hout hX
              refine wpOp_step rfl (fun K' hK' => ?_)
              go_simp
              exact hK' _ _ ⟨fun _ => rfl, fun h => absurd h (by decide), Below.refl _ _⟩
            | 18, ho =>
              obtain rfl := Option.some.inj ho
              have e17' : a.tmps[87]? = some (.bool true) := hd 17 rfl rfl
              clear hd ho hout hX
              refine wpOp_step rfl (fun K' hK' => ?_)
              go_simp
              exact hK' _ _ ⟨fun _ => rfl, fun h => absurd h (by decide), Below.refl _ _⟩
            | 19, ho =>
              obtain rfl := Option.some.inj ho
              have e18' : a.tmps[88]? = some (.bool true) := hd 18 rfl rfl
              have f8 : a.tmps[8]? = some (.bool true) := (hout 8 (by decide)).trans HF8.out
              clear hd ho hout hX
              refine wpOp_step rfl (fun K' hK' => ?_)
              go_simp
              exact hK' _ _ ⟨fun _ => rfl, fun h => absurd h (by decide), Below.refl _ _⟩
            | 20, ho =>
              obtain rfl := Option.some.inj ho
              have e18' : a.tmps[88]? = some (.bool true) := hd 18 rfl rfl
              have e19' : a.tmps[89]? = some (.bool true) := hd 19 rfl rfl
              clear hd ho hout hX
              refine wpOp_step rfl (fun K' hK' => ?_)
              go_simp
              exact hK' _ _ ⟨fun _ => rfl, fun h => absurd h (by decide), Below.refl _ _⟩
            | 21, ho =>
              obtain rfl := Option.some.inj ho
              have e20' : a.tmps[90]? = some (.bool true) := hd 20 rfl rfl
              have f7 : a.tmps[7]? = some (.pointer (some ⟨w4.heap.size, 0, none⟩)) := (hout 7 (by decide)).trans HF7.out
              clear hd ho hout hX
              refine wpOp_step rfl (fun K' hK' => ?_)
              go_simp
              exact hK' _ _ ⟨fun _ => rfl, fun h => absurd h (by decide), Below.refl _ _⟩
            | 22, ho =>
              obtain rfl := Option.some.inj ho
              have e20' : a.tmps[90]? = some (.bool true) := hd 20 rfl rfl
              clear hd ho hout hX
              refine wpOp_step rfl (fun K' hK' => ?_)
              go_simp
              exact hK' _ _ ⟨fun _ => rfl, fun h => absurd h (by decide), Below.refl _ _⟩
            | 23, ho =>
              obtain rfl := Option.some.inj ho
              have e20' : a.tmps[90]? = some (.bool true) := hd 20 rfl rfl
              have e21' : a.tmps[91]? = some (undef) := hd 21 rfl rfl
              have e22' : a.tmps[92]? = some (undef) := hd 22 rfl rfl
              clear hd ho hout hX
              refine wpOp_step rfl (fun K' hK' => ?_)
              go_simp
              exact hK' _ _ ⟨fun _ => rfl, fun h => absurd h (by decide), Below.refl _ _⟩
            | 24, ho =>
              obtain rfl := Option.some.inj ho
              have e18' : a.tmps[88]? = some (.bool true) := hd 18 rfl rfl
              have e20' : a.tmps[90]? = some (.bool true) := hd 20 rfl rfl
              have e23' : a.tmps[93]? = some (undef) := hd 23 rfl rfl
              clear hd ho hout hX
              refine wpOp_step rfl (fun K' hK' => ?_)
              go_simp
              exact hK' _ _ ⟨fun _ => rfl, fun h => absurd h (by decide), Below.refl _ _⟩
            | 25, ho =>
              obtain rfl := Option.some.inj ho
              have e18' : a.tmps[88]? = some (.bool true) := hd 18 rfl rfl
              have e24' : a.tmps[94]? = some (.bool true) := hd 24 rfl rfl
              clear hd ho hout hX
              refine wpOp_step rfl (fun K' hK' => ?_)
              go_simp
              exact hK' _ _ ⟨fun _ => rfl, fun h => absurd h (by decide), Below.refl _ _⟩
            | 26, ho =>
              obtain rfl := Option.some.inj ho
              have e25' : a.tmps[95]? = some (.bool true) := hd 25 rfl rfl
              clear hd ho hout hX
              refine wpOp_step rfl (fun K' hK' => ?_)
              go_simp
              exact hK' _ _ ⟨fun _ => rfl, fun h => absurd h (by decide), Below.refl _ _⟩
            | i + 27, ho => cases ho
          case fin =>
            intro v u hbu hv hg
            have hvv := setD_congr F.tmps (fun i => if i = 26 then 4 else 70 + i) 27 v (fun i => ((([.bool true, .bool true, .agg #[.slice (some ⟨bt, ot, none⟩) tn tcap, .slice (some ⟨bc, oc, none⟩) m ccap], .string NB, undef, .agg #[.slice (some ⟨bt, ot, none⟩) tn tcap, .slice (some ⟨bc, oc, none⟩) m ccap], .string NB, undef, .bool true, .bool true, .bool true, .bool true, .bool true, undef, undef, undef, .bool true, .bool true, .bool true, .bool true, .bool true, undef, undef, undef, .bool true, .bool true, .bool true] : List Value).set 4 (v 4)).set 7 (v 7)).getD i undef) (fun i hi => by
              rw [List.getD_eq_getElem?_getD]
              by_cases e4 : i = 4
              · subst e4; rfl
              by_cases e7 : i = 7
              · subst e7; rfl
              rw [List.getElem?_set_ne (Ne.symm e7), List.getElem?_set_ne (Ne.symm e4), hv i hi (by simp [e4, e7])]; rfl)
            rw [hvv, ← HF.out]
            clear hvv hv HF HSZ HF1 HF2 HF5 HF6 HF7 HF8
            simp only [setD, List.getD_cons_zero, List.getD_cons_succ, Nat.reduceAdd, List.setIfInBounds_toArray, List.set_cons_succ, List.set_cons_zero, if_true, if_false, reduceIte, Nat.reduceEqDiff]
            have hend := (HXU.out _ hbu).2.2.2
            clear hg hbu
            go_wp2_with fail
            all_goals (go_ret; exact ⟨rfl, hend⟩)
      · obtain rfl : q = -1 := by omega
        have hce := HCO.out.1 (by omega)
        have hOKC : OKC = false := by rw [← HOK.out.2]; exact decide_eq_false hq0
        obtain ⟨hC1, hC2, hC3⟩ := HNC.out
        rw [hce] at hC1 hC2 hC3
        have hC1' : (⟨#[]⟩ : ByteArray) = NC := hC1
        have hC2' : (⟨#[]⟩ : ByteArray) = UC := hC2
        have HM7 : Hid (IsNms w6 (.slice a1 n1 c1) [] ∧ IsNms w6 (.slice a2 n2 c2) []) := Lib.hid (by have := HM6.out; rw [hce] at this; exact this)
        subst hOKC hC1' hC2' hC3
        clear hce hq0
        have HSCZ : Hid (∀ u, Below w6.heap.size w6 u → Calls Try.prog 17 #[.agg #[.string ⟨#[]⟩, .string ⟨#[]⟩, .int .i64 0, .slice a1 n1 c1, .slice a2 n2 c2], .agg #[.string ⟨#[]⟩, .string ⟨#[]⟩, .int .i64 0, .slice none 0 0, .slice none 0 0]] u fun e w' => e = .returned (.bool true) ∧ Below u.heap.size u w') := Lib.hid (fun u hu => sameClass_any (HM7.out.1.below hu) (HM7.out.2.below hu) (nms_none u) (nms_none u) (by decide) (by decide))
        go_upto_region 6 with fail
        generalize hF : (Act.mk _ _) = F
        have HF2 : Hid (F.tmps[2]? = some (.pointer (some ⟨w.heap.size, 0, none⟩))) := Lib.hid (by rw [← hF]; rfl)
        have HF5 : Hid (F.tmps[5]? = some (.pointer (some ⟨w3.heap.size, 0, none⟩))) := Lib.hid (by rw [← hF]; rfl)
        have HF6 : Hid (F.tmps[6]? = some (.bool true)) := Lib.hid (by rw [← hF]; rfl)
        have HF7 : Hid (F.tmps[7]? = some (.pointer (some ⟨w4.heap.size, 0, none⟩))) := Lib.hid (by rw [← hF]; rfl)
        have HF8 : Hid (F.tmps[8]? = some (.bool false)) := Lib.hid (by rw [← hF]; rfl)
        have HF9 : Hid (F.tmps[9]? = some (.int .i64 (x : Int))) := Lib.hid (by rw [← hF]; rfl)
        have HF10 : Hid (F.tmps[10]? = some (.int .i64 (-1))) := Lib.hid (by rw [← hF]; rfl)
        have HSZ : Hid (injD (fun i => 35 + i) 35 F.tmps.size = true) := Lib.hid (by rw [show F.tmps.size = 96 by rw [← hF]; rfl]; decide +kernel)
        have HF := Lib.hid hF
        clear hF
        refine wp_region_some (by kernel_rfl) F (fun i => 35 + i) [.bool true, .int .i64 (x : Int), .bool true, .bool false, .bool false, .bool false, .int .i64 (-1), .bool false, .bool false, .bool false, .bool false, .bool true, .bool true, .agg #[.string NT, .int .i64 sy, .bool sg, .bool op], .pointer (some ⟨w.heap.size, 0, none⟩), .slice (some ⟨bt, ot, none⟩) tn tcap, .int .i64 (x : Int), .pointer (some ⟨bt, ot + x * 4, none⟩), .agg #[.string NT, .int .i64 sy, .bool sg, .bool op], .bool false, .bool false, .bool false, .bool false, .bool false, .bool false, undef, undef, undef, undef, undef, undef, undef, undef, .bool false, .bool false] (fun _ => false) (fun _ _ _ => True) w6 35 (fun _ _ _ _ _ _ => trivial) rfl rfl HSZ.out (by kernel_rfl) (by kernel_rfl) ?step ?fin
        case step =>
          intro i o ho a X u hu hout hd hX
          match i, ho with
          | 0, ho =>
            obtain rfl := Option.some.inj ho
            have f6 : a.tmps[6]? = some (.bool true) := (hout 6 (by decide)).trans HF6.out
            clear hd ho hout hX
            refine wpOp_step rfl (fun K' hK' => ?_)
            go_simp
            exact hK' _ _ ⟨fun _ => rfl, fun h => absurd h (by decide), Below.refl _ _⟩
          | 1, ho =>
            obtain rfl := Option.some.inj ho
            have f9 : a.tmps[9]? = some (.int .i64 (x : Int)) := (hout 9 (by decide)).trans HF9.out
            clear hd ho hout hX
            refine wpOp_step rfl (fun K' hK' => ?_)
            go_simp
            exact hK' _ _ ⟨fun _ => rfl, fun h => absurd h (by decide), Below.refl _ _⟩
          | 2, ho =>
            obtain rfl := Option.some.inj ho
            have e1' : a.tmps[36]? = some (.int .i64 (x : Int)) := hd 1 rfl rfl
            clear hd ho hout hX
            refine wpOp_step rfl (fun K' hK' => ?_)
            go_simp
            exact hK' _ _ ⟨fun _ => rfl, fun h => absurd h (by decide), Below.refl _ _⟩
          | 3, ho =>
            obtain rfl := Option.some.inj ho
            have e0' : a.tmps[35]? = some (.bool true) := hd 0 rfl rfl
            have e2' : a.tmps[37]? = some (.bool true) := hd 2 rfl rfl
            clear hd ho hout hX
            refine wpOp_step rfl (fun K' hK' => ?_)
            go_simp
            exact hK' _ _ ⟨fun _ => rfl, fun h => absurd h (by decide), Below.refl _ _⟩
          | 4, ho =>
            obtain rfl := Option.some.inj ho
            have e3' : a.tmps[38]? = some (.bool false) := hd 3 rfl rfl
            clear hd ho hout hX
            refine wpOp_step rfl (fun K' hK' => ?_)
            go_simp
            exact hK' _ _ ⟨fun _ => rfl, fun h => absurd h (by decide), Below.refl _ _⟩
          | 5, ho =>
            obtain rfl := Option.some.inj ho
            have e4' : a.tmps[39]? = some (.bool false) := hd 4 rfl rfl
            have f8 : a.tmps[8]? = some (.bool false) := (hout 8 (by decide)).trans HF8.out
            clear hd ho hout hX
            refine wpOp_step rfl (fun K' hK' => ?_)
            go_simp
            exact hK' _ _ ⟨fun _ => rfl, fun h => absurd h (by decide), Below.refl _ _⟩
          | 6, ho =>
            obtain rfl := Option.some.inj ho
            have e4' : a.tmps[39]? = some (.bool false) := hd 4 rfl rfl
            have f10 : a.tmps[10]? = some (.int .i64 (-1)) := (hout 10 (by decide)).trans HF10.out
            clear hd ho hout hX
            refine wpOp_step rfl (fun K' hK' => ?_)
            go_simp
            exact hK' _ _ ⟨fun _ => rfl, fun h => absurd h (by decide), Below.refl _ _⟩
          | 7, ho =>
            obtain rfl := Option.some.inj ho
            have e4' : a.tmps[39]? = some (.bool false) := hd 4 rfl rfl
            have e6' : a.tmps[41]? = some (.int .i64 (-1)) := hd 6 rfl rfl
            clear hd ho hout hX
            refine wpOp_step rfl (fun K' hK' => ?_)
            go_simp
            exact hK' _ _ ⟨fun _ => rfl, fun h => absurd h (by decide), Below.refl _ _⟩
          | 8, ho =>
            obtain rfl := Option.some.inj ho
            have e4' : a.tmps[39]? = some (.bool false) := hd 4 rfl rfl
            have e5' : a.tmps[40]? = some (.bool false) := hd 5 rfl rfl
            have e7' : a.tmps[42]? = some (.bool false) := hd 7 rfl rfl
            clear hd ho hout hX
            refine wpOp_step rfl (fun K' hK' => ?_)
            go_simp
            exact hK' _ _ ⟨fun _ => rfl, fun h => absurd h (by decide), Below.refl _ _⟩
          | 9, ho =>
            obtain rfl := Option.some.inj ho
            have e4' : a.tmps[39]? = some (.bool false) := hd 4 rfl rfl
            have e8' : a.tmps[43]? = some (.bool false) := hd 8 rfl rfl
            clear hd ho hout hX
            refine wpOp_step rfl (fun K' hK' => ?_)
            go_simp
            exact hK' _ _ ⟨fun _ => rfl, fun h => absurd h (by decide), Below.refl _ _⟩
          | 10, ho =>
            obtain rfl := Option.some.inj ho
            have e9' : a.tmps[44]? = some (.bool false) := hd 9 rfl rfl
            clear hd ho hout hX
            refine wpOp_step rfl (fun K' hK' => ?_)
            go_simp
            exact hK' _ _ ⟨fun _ => rfl, fun h => absurd h (by decide), Below.refl _ _⟩
          | 11, ho =>
            obtain rfl := Option.some.inj ho
            have e10' : a.tmps[45]? = some (.bool false) := hd 10 rfl rfl
            have f6 : a.tmps[6]? = some (.bool true) := (hout 6 (by decide)).trans HF6.out
            clear hd ho hout hX
            refine wpOp_step rfl (fun K' hK' => ?_)
            go_simp
            exact hK' _ _ ⟨fun _ => rfl, fun h => absurd h (by decide), Below.refl _ _⟩
          | 12, ho =>
            obtain rfl := Option.some.inj ho
            have e10' : a.tmps[45]? = some (.bool false) := hd 10 rfl rfl
            have e11' : a.tmps[46]? = some (.bool true) := hd 11 rfl rfl
            clear hd ho hout hX
            refine wpOp_step rfl (fun K' hK' => ?_)
            go_simp
            exact hK' _ _ ⟨fun _ => rfl, fun h => absurd h (by decide), Below.refl _ _⟩
          | 13, ho =>
            obtain rfl := Option.some.inj ho
            have e12' : a.tmps[47]? = some (.bool true) := hd 12 rfl rfl
            have f5 : a.tmps[5]? = some (.pointer (some ⟨w3.heap.size, 0, none⟩)) := (hout 5 (by decide)).trans HF5.out
            clear hd ho hout hX
            refine wpOp_step rfl (fun K' hK' => ?_)
            obtain ⟨⟨p0, p1⟩, ⟨z0, z1, z2, z3⟩, ⟨g0, g1, g2, g3, g4⟩, hBu⟩ := HX.out _ hu
            go_simp
            exact hK' _ _ ⟨fun _ => rfl, fun h => absurd h (by decide), Below.refl _ _⟩
          | 14, ho =>
            obtain rfl := Option.some.inj ho
            have e12' : a.tmps[47]? = some (.bool true) := hd 12 rfl rfl
            have f2 : a.tmps[2]? = some (.pointer (some ⟨w.heap.size, 0, none⟩)) := (hout 2 (by decide)).trans HF2.out
            clear hd ho hout hX
            refine wpOp_step rfl (fun K' hK' => ?_)
            go_simp
            exact hK' _ _ ⟨fun _ => rfl, fun h => absurd h (by decide), Below.refl _ _⟩
          | 15, ho =>
            obtain rfl := Option.some.inj ho
            have e12' : a.tmps[47]? = some (.bool true) := hd 12 rfl rfl
            have e14' : a.tmps[49]? = some (.pointer (some ⟨w.heap.size, 0, none⟩)) := hd 14 rfl rfl
            clear hd ho hout hX
            refine wpOp_step rfl (fun K' hK' => ?_)
            obtain ⟨⟨p0, p1⟩, ⟨z0, z1, z2, z3⟩, ⟨g0, g1, g2, g3, g4⟩, hBu⟩ := HX.out _ hu
            go_simp
            exact hK' _ _ ⟨fun _ => rfl, fun h => absurd h (by decide), Below.refl _ _⟩
          | 16, ho =>
            obtain rfl := Option.some.inj ho
            have e12' : a.tmps[47]? = some (.bool true) := hd 12 rfl rfl
            have f9 : a.tmps[9]? = some (.int .i64 (x : Int)) := (hout 9 (by decide)).trans HF9.out
            clear hd ho hout hX
            refine wpOp_step rfl (fun K' hK' => ?_)
            go_simp
            exact hK' _ _ ⟨fun _ => rfl, fun h => absurd h (by decide), Below.refl _ _⟩
          | 17, ho =>
            obtain rfl := Option.some.inj ho
            have e12' : a.tmps[47]? = some (.bool true) := hd 12 rfl rfl
            have e15' : a.tmps[50]? = some (.slice (some ⟨bt, ot, none⟩) tn tcap) := hd 15 rfl rfl
            have e16' : a.tmps[51]? = some (.int .i64 (x : Int)) := hd 16 rfl rfl
            clear hd ho hout hX
            refine wpOp_step rfl (fun K' hK' => ?_)
            go_simp
            exact hK' _ _ ⟨fun _ => rfl, fun h => absurd h (by decide), Below.refl _ _⟩
          | 18, ho =>
            obtain rfl := Option.some.inj ho
            have e12' : a.tmps[47]? = some (.bool true) := hd 12 rfl rfl
            have e17' : a.tmps[52]? = some (.pointer (some ⟨bt, ot + x * 4, none⟩)) := hd 17 rfl rfl
            clear hd ho hout hX
            refine wpOp_step rfl (fun K' hK' => ?_)
            obtain ⟨⟨p0, p1⟩, ⟨z0, z1, z2, z3⟩, ⟨g0, g1, g2, g3, g4⟩, hBu⟩ := HX.out _ hu; obtain ⟨y0, y1, y2, y3⟩ := HTY.out _ hBu
            go_simp
            exact hK' _ _ ⟨fun _ => rfl, fun h => absurd h (by decide), Below.refl _ _⟩
          | 19, ho =>
            obtain rfl := Option.some.inj ho
            have e12' : a.tmps[47]? = some (.bool true) := hd 12 rfl rfl
            have e13' : a.tmps[48]? = some (.agg #[.string NT, .int .i64 sy, .bool sg, .bool op]) := hd 13 rfl rfl
            have e18' : a.tmps[53]? = some (.agg #[.string NT, .int .i64 sy, .bool sg, .bool op]) := hd 18 rfl rfl
            clear hd ho hout hX
            refine wpOp_step rfl (fun K' hK' => ?_)
            go_simp
            exact hK' _ _ ⟨fun _ => rfl, fun h => absurd h (by decide), Below.refl _ _⟩
          | 20, ho =>
            obtain rfl := Option.some.inj ho
            have e10' : a.tmps[45]? = some (.bool false) := hd 10 rfl rfl
            have e12' : a.tmps[47]? = some (.bool true) := hd 12 rfl rfl
            have e19' : a.tmps[54]? = some (.bool false) := hd 19 rfl rfl
            clear hd ho hout hX
            refine wpOp_step rfl (fun K' hK' => ?_)
            go_simp
            exact hK' _ _ ⟨fun _ => rfl, fun h => absurd h (by decide), Below.refl _ _⟩
          | 21, ho =>
            obtain rfl := Option.some.inj ho
            have e10' : a.tmps[45]? = some (.bool false) := hd 10 rfl rfl
            have e20' : a.tmps[55]? = some (.bool false) := hd 20 rfl rfl
            clear hd ho hout hX
            refine wpOp_step rfl (fun K' hK' => ?_)
            go_simp
            exact hK' _ _ ⟨fun _ => rfl, fun h => absurd h (by decide), Below.refl _ _⟩
          | 22, ho =>
            obtain rfl := Option.some.inj ho
            have e21' : a.tmps[56]? = some (.bool false) := hd 21 rfl rfl
            clear hd ho hout hX
            refine wpOp_step rfl (fun K' hK' => ?_)
            go_simp
            exact hK' _ _ ⟨fun _ => rfl, fun h => absurd h (by decide), Below.refl _ _⟩
          | 23, ho =>
            obtain rfl := Option.some.inj ho
            have e22' : a.tmps[57]? = some (.bool false) := hd 22 rfl rfl
            have f8 : a.tmps[8]? = some (.bool false) := (hout 8 (by decide)).trans HF8.out
            clear hd ho hout hX
            refine wpOp_step rfl (fun K' hK' => ?_)
            go_simp
            exact hK' _ _ ⟨fun _ => rfl, fun h => absurd h (by decide), Below.refl _ _⟩
          | 24, ho =>
            obtain rfl := Option.some.inj ho
            have e22' : a.tmps[57]? = some (.bool false) := hd 22 rfl rfl
            have e23' : a.tmps[58]? = some (.bool false) := hd 23 rfl rfl
            clear hd ho hout hX
            refine wpOp_step rfl (fun K' hK' => ?_)
            go_simp
            exact hK' _ _ ⟨fun _ => rfl, fun h => absurd h (by decide), Below.refl _ _⟩
          | 25, ho =>
            obtain rfl := Option.some.inj ho
            have e24' : a.tmps[59]? = some (.bool false) := hd 24 rfl rfl
            have f7 : a.tmps[7]? = some (.pointer (some ⟨w4.heap.size, 0, none⟩)) := (hout 7 (by decide)).trans HF7.out
            clear hd ho hout hX
            refine wpOp_step rfl (fun K' hK' => ?_)
            go_simp
            exact hK' _ _ ⟨fun _ => rfl, fun h => absurd h (by decide), Below.refl _ _⟩
          | 26, ho =>
            obtain rfl := Option.some.inj ho
            have e24' : a.tmps[59]? = some (.bool false) := hd 24 rfl rfl
            have f2 : a.tmps[2]? = some (.pointer (some ⟨w.heap.size, 0, none⟩)) := (hout 2 (by decide)).trans HF2.out
            clear hd ho hout hX
            refine wpOp_step rfl (fun K' hK' => ?_)
            go_simp
            exact hK' _ _ ⟨fun _ => rfl, fun h => absurd h (by decide), Below.refl _ _⟩
          | 27, ho =>
            obtain rfl := Option.some.inj ho
            have e24' : a.tmps[59]? = some (.bool false) := hd 24 rfl rfl
            have e26' : a.tmps[61]? = some (undef) := hd 26 rfl rfl
            clear hd ho hout hX
            refine wpOp_step rfl (fun K' hK' => ?_)
            go_simp
            exact hK' _ _ ⟨fun _ => rfl, fun h => absurd h (by decide), Below.refl _ _⟩
          | 28, ho =>
            obtain rfl := Option.some.inj ho
            have e24' : a.tmps[59]? = some (.bool false) := hd 24 rfl rfl
            have f10 : a.tmps[10]? = some (.int .i64 (-1)) := (hout 10 (by decide)).trans HF10.out
            clear hd ho hout hX
            refine wpOp_step rfl (fun K' hK' => ?_)
            go_simp
            exact hK' _ _ ⟨fun _ => rfl, fun h => absurd h (by decide), Below.refl _ _⟩
          | 29, ho =>
            obtain rfl := Option.some.inj ho
            have e24' : a.tmps[59]? = some (.bool false) := hd 24 rfl rfl
            have e27' : a.tmps[62]? = some (undef) := hd 27 rfl rfl
            have e28' : a.tmps[63]? = some (undef) := hd 28 rfl rfl
            clear hd ho hout hX
            refine wpOp_step rfl (fun K' hK' => ?_)
            go_simp
            exact hK' _ _ ⟨fun _ => rfl, fun h => absurd h (by decide), Below.refl _ _⟩
          | 30, ho =>
            obtain rfl := Option.some.inj ho
            have e24' : a.tmps[59]? = some (.bool false) := hd 24 rfl rfl
            have e29' : a.tmps[64]? = some (undef) := hd 29 rfl rfl
            clear hd ho hout hX
            refine wpOp_step rfl (fun K' hK' => ?_)
            go_simp
            exact hK' _ _ ⟨fun _ => rfl, fun h => absurd h (by decide), Below.refl _ _⟩
          | 31, ho =>
            obtain rfl := Option.some.inj ho
            have e24' : a.tmps[59]? = some (.bool false) := hd 24 rfl rfl
            have e25' : a.tmps[60]? = some (undef) := hd 25 rfl rfl
            have e30' : a.tmps[65]? = some (undef) := hd 30 rfl rfl
            clear hd ho hout hX
            refine wpOp_step rfl (fun K' hK' => ?_)
            go_simp
            exact hK' _ _ ⟨fun _ => rfl, fun h => absurd h (by decide), Below.refl _ _⟩
          | 32, ho =>
            obtain rfl := Option.some.inj ho
            have e24' : a.tmps[59]? = some (.bool false) := hd 24 rfl rfl
            have e31' : a.tmps[66]? = some (undef) := hd 31 rfl rfl
            clear hd ho hout hX
            refine wpOp_step rfl (fun K' hK' => ?_)
            go_simp
            exact hK' _ _ ⟨fun _ => rfl, fun h => absurd h (by decide), Below.refl _ _⟩
          | 33, ho =>
            obtain rfl := Option.some.inj ho
            have e22' : a.tmps[57]? = some (.bool false) := hd 22 rfl rfl
            have e24' : a.tmps[59]? = some (.bool false) := hd 24 rfl rfl
            have e32' : a.tmps[67]? = some (undef) := hd 32 rfl rfl
            clear hd ho hout hX
            refine wpOp_step rfl (fun K' hK' => ?_)
            go_simp
            exact hK' _ _ ⟨fun _ => rfl, fun h => absurd h (by decide), Below.refl _ _⟩
          | 34, ho =>
            obtain rfl := Option.some.inj ho
            have e22' : a.tmps[57]? = some (.bool false) := hd 22 rfl rfl
            have e33' : a.tmps[68]? = some (.bool false) := hd 33 rfl rfl
            clear hd ho hout hX
            refine wpOp_step rfl (fun K' hK' => ?_)
            go_simp
            exact hK' _ _ ⟨fun _ => rfl, fun h => absurd h (by decide), Below.refl _ _⟩
          | i + 35, ho => cases ho
        case fin =>
          intro v u hbu hv hg
          have hvv := setD_congr F.tmps (fun i => 35 + i) 35 v (fun i => ([.bool true, .int .i64 (x : Int), .bool true, .bool false, .bool false, .bool false, .int .i64 (-1), .bool false, .bool false, .bool false, .bool false, .bool true, .bool true, .agg #[.string NT, .int .i64 sy, .bool sg, .bool op], .pointer (some ⟨w.heap.size, 0, none⟩), .slice (some ⟨bt, ot, none⟩) tn tcap, .int .i64 (x : Int), .pointer (some ⟨bt, ot + x * 4, none⟩), .agg #[.string NT, .int .i64 sy, .bool sg, .bool op], .bool false, .bool false, .bool false, .bool false, .bool false, .bool false, undef, undef, undef, undef, undef, undef, undef, undef, .bool false, .bool false] : List Value).getD i undef) (fun i hi => by
            rw [List.getD_eq_getElem?_getD, hv i hi rfl]; rfl)
          rw [hvv, ← HF.out]
          clear hvv hv HF HSZ HF2 HF5 HF6 HF7 HF8 HF9 HF10
          simp only [setD, List.getD_cons_zero, List.getD_cons_succ, Nat.reduceAdd, List.setIfInBounds_toArray, List.set_cons_succ, List.set_cons_zero, if_true, if_false, reduceIte, Nat.reduceEqDiff]
          have HXU := Lib.hid (fun (u' : World) (hu' : Below u.heap.size u u') => HX.out u' (hbu.trans (hu'.mono hbu.size)))
          have HU6 := Lib.hid (fun (u' : World) (hu' : Below u.heap.size u u') => hbu.trans (hu'.mono hbu.size))
          clear hg hbu
          go_upto_region 8 with fail
          generalize hF : (Act.mk _ _) = F
          have HF1 : Hid (F.tmps[1]? = some (.string NB)) := Lib.hid (by rw [← hF]; rfl)
          have HF2 : Hid (F.tmps[2]? = some (.pointer (some ⟨w.heap.size, 0, none⟩))) := Lib.hid (by rw [← hF]; rfl)
          have HF5 : Hid (F.tmps[5]? = some (.pointer (some ⟨w3.heap.size, 0, none⟩))) := Lib.hid (by rw [← hF]; rfl)
          have HF6 : Hid (F.tmps[6]? = some (.bool true)) := Lib.hid (by rw [← hF]; rfl)
          have HF7 : Hid (F.tmps[7]? = some (.pointer (some ⟨w4.heap.size, 0, none⟩))) := Lib.hid (by rw [← hF]; rfl)
          have HF8 : Hid (F.tmps[8]? = some (.bool false)) := Lib.hid (by rw [← hF]; rfl)
          have HSZ : Hid (injD (fun i => if i = 26 then 4 else 70 + i) 27 F.tmps.size = true) := Lib.hid (by rw [show F.tmps.size = 96 by rw [← hF]; rfl]; decide +kernel)
          have HF := Lib.hid hF
          clear hF
          refine wp_region_some (by kernel_rfl) F (fun i => if i = 26 then 4 else 70 + i) [.bool true, .bool true, .agg #[.slice (some ⟨bt, ot, none⟩) tn tcap, .slice ca m ccap], .string NB, undef, .agg #[.slice (some ⟨bt, ot, none⟩) tn tcap, .slice ca m ccap], .string NB, undef, .bool true, .bool true, .bool true, .bool true, .bool true, undef, undef, undef, .bool true, .bool true, .bool true, .bool false, .bool false, .agg #[.string ⟨#[]⟩, .string ⟨#[]⟩, .int .i64 0, .slice a1 n1 c1, .slice a2 n2 c2], .agg #[.string ⟨#[]⟩, .string ⟨#[]⟩, .int .i64 0, .slice none 0 0, .slice none 0 0], .bool true, .bool true, .bool true, .bool true] (fun i => i == 4 || i == 7) (fun _ x u => IsNms u x CN) u 27 (fun _ x u u' hb h => h.below hb) rfl rfl HSZ.out (by kernel_rfl) (by kernel_rfl) ?step ?fin
          case step =>
            intro i o ho a X u hu hout hd hX
            match i, ho with
            | 0, ho =>
              obtain rfl := Option.some.inj ho
              clear hd ho hout hX
              refine wpOp_step rfl (fun K' hK' => ?_)
              go_simp
              refine (HA.out _).mono ?_
              rintro e w9 ⟨rfl, hb9⟩
              exact hK' _ _ ⟨fun _ => rfl, fun h => absurd h (by decide), hb9⟩
            | 1, ho =>
              obtain rfl := Option.some.inj ho
              have e0' : a.tmps[70]? = some (.bool true) := hd 0 rfl rfl
              clear hd ho hout hX
              refine wpOp_step rfl (fun K' hK' => ?_)
              go_simp
              exact hK' _ _ ⟨fun _ => rfl, fun h => absurd h (by decide), Below.refl _ _⟩
            | 2, ho =>
              obtain rfl := Option.some.inj ho
              have e1' : a.tmps[71]? = some (.bool true) := hd 1 rfl rfl
              have f2 : a.tmps[2]? = some (.pointer (some ⟨w.heap.size, 0, none⟩)) := (hout 2 (by decide)).trans HF2.out
              clear hd ho hout hX
              refine wpOp_step rfl (fun K' hK' => ?_)
              obtain ⟨⟨p0, p1⟩, ⟨z0, z1, z2, z3⟩, ⟨g0, g1, g2, g3, g4⟩, hBu⟩ := HXU.out _ hu
              go_simp
              exact hK' _ _ ⟨fun _ => rfl, fun h => absurd h (by decide), Below.refl _ _⟩
            | 3, ho =>
              obtain rfl := Option.some.inj ho
              have e1' : a.tmps[71]? = some (.bool true) := hd 1 rfl rfl
              have f1 : a.tmps[1]? = some (.string NB) := (hout 1 (by decide)).trans HF1.out
              clear hd ho hout hX
              refine wpOp_step rfl (fun K' hK' => ?_)
              go_simp
              exact hK' _ _ ⟨fun _ => rfl, fun h => absurd h (by decide), Below.refl _ _⟩
            | 4, ho =>
              obtain rfl := Option.some.inj ho
              have e1' : a.tmps[71]? = some (.bool true) := hd 1 rfl rfl
              have e2' : a.tmps[72]? = some (.agg #[.slice (some ⟨bt, ot, none⟩) tn tcap, .slice ca m ccap]) := hd 2 rfl rfl
              have e3' : a.tmps[73]? = some (.string NB) := hd 3 rfl rfl
              clear hd ho hout hX
              refine wpOp_step rfl (fun K' hK' => ?_)
              go_simp
              refine (HCH.out _ (HXU.out _ hu).2.2.2).mono ?_
              rintro e w9 ⟨v9, rfl, hown, hb9⟩
              exact hK' _ _ ⟨fun h => absurd h (by decide), fun _ => ⟨v9, rfl, IsOwn.nms hown⟩, hb9⟩
            | 5, ho =>
              obtain rfl := Option.some.inj ho
              have e1' : a.tmps[71]? = some (.bool true) := hd 1 rfl rfl
              have f2 : a.tmps[2]? = some (.pointer (some ⟨w.heap.size, 0, none⟩)) := (hout 2 (by decide)).trans HF2.out
              clear hd ho hout hX
              refine wpOp_step rfl (fun K' hK' => ?_)
              obtain ⟨⟨p0, p1⟩, ⟨z0, z1, z2, z3⟩, ⟨g0, g1, g2, g3, g4⟩, hBu⟩ := HXU.out _ hu
              go_simp
              exact hK' _ _ ⟨fun _ => rfl, fun h => absurd h (by decide), Below.refl _ _⟩
            | 6, ho =>
              obtain rfl := Option.some.inj ho
              have e1' : a.tmps[71]? = some (.bool true) := hd 1 rfl rfl
              have f1 : a.tmps[1]? = some (.string NB) := (hout 1 (by decide)).trans HF1.out
              clear hd ho hout hX
              refine wpOp_step rfl (fun K' hK' => ?_)
              go_simp
              exact hK' _ _ ⟨fun _ => rfl, fun h => absurd h (by decide), Below.refl _ _⟩
            | 7, ho =>
              obtain rfl := Option.some.inj ho
              have e1' : a.tmps[71]? = some (.bool true) := hd 1 rfl rfl
              have e5' : a.tmps[75]? = some (.agg #[.slice (some ⟨bt, ot, none⟩) tn tcap, .slice ca m ccap]) := hd 5 rfl rfl
              have e6' : a.tmps[76]? = some (.string NB) := hd 6 rfl rfl
              clear hd ho hout hX
              refine wpOp_step rfl (fun K' hK' => ?_)
              go_simp
              refine (HRC.out HK0.out _ (HXU.out _ hu).2.2.2).mono ?_
              rintro e w9 ⟨v9, rfl, hown, hb9⟩
              exact hK' _ _ ⟨fun h => absurd h (by decide), fun _ => ⟨v9, rfl, IsOwn.nms hown⟩, hb9⟩
            | 8, ho =>
              obtain rfl := Option.some.inj ho
              have e1' : a.tmps[71]? = some (.bool true) := hd 1 rfl rfl
              obtain ⟨hx4', hg4'⟩ := hX 4 rfl rfl
              have hx4 : a.tmps[74]? = some (X 4) := hx4'
              have hg4 : IsNms u (X 4) CN := hg4'
              clear hx4' hg4'
              generalize X 4 = x4v at *
              obtain ⟨hx7', hg7'⟩ := hX 7 rfl rfl
              have hx7 : a.tmps[77]? = some (X 7) := hx7'
              have hg7 : IsNms u (X 7) CN := hg7'
              clear hx7' hg7'
              generalize X 7 = x7v at *
              clear hd ho hout hX
              refine wpOp_step rfl (fun K' hK' => ?_)
              go_simp
              refine (HSAME.out _ _ _ hg4 hg7).mono ?_
              rintro e w9 ⟨rfl, hb9⟩
              exact hK' _ _ ⟨fun _ => rfl, fun h => absurd h (by decide), hb9⟩
            | 9, ho =>
              obtain rfl := Option.some.inj ho
              have e1' : a.tmps[71]? = some (.bool true) := hd 1 rfl rfl
              have e8' : a.tmps[78]? = some (.bool true) := hd 8 rfl rfl
              clear hd ho hout hX
              refine wpOp_step rfl (fun K' hK' => ?_)
              go_simp
              exact hK' _ _ ⟨fun _ => rfl, fun h => absurd h (by decide), Below.refl _ _⟩
            | 10, ho =>
              obtain rfl := Option.some.inj ho
              have e9' : a.tmps[79]? = some (.bool true) := hd 9 rfl rfl
              clear hd ho hout hX
              refine wpOp_step rfl (fun K' hK' => ?_)
              go_simp
              exact hK' _ _ ⟨fun _ => rfl, fun h => absurd h (by decide), Below.refl _ _⟩
            | 11, ho =>
              obtain rfl := Option.some.inj ho
              have e10' : a.tmps[80]? = some (.bool true) := hd 10 rfl rfl
              have f6 : a.tmps[6]? = some (.bool true) := (hout 6 (by decide)).trans HF6.out
              clear hd ho hout hX
              refine wpOp_step rfl (fun K' hK' => ?_)
              go_simp
              exact hK' _ _ ⟨fun _ => rfl, fun h => absurd h (by decide), Below.refl _ _⟩
            | 12, ho =>
              obtain rfl := Option.some.inj ho
              have e10' : a.tmps[80]? = some (.bool true) := hd 10 rfl rfl
              have e11' : a.tmps[81]? = some (.bool true) := hd 11 rfl rfl
              clear hd ho hout hX
              refine wpOp_step rfl (fun K' hK' => ?_)
              go_simp
              exact hK' _ _ ⟨fun _ => rfl, fun h => absurd h (by decide), Below.refl _ _⟩
            | 13, ho =>
              obtain rfl := Option.some.inj ho
              have e12' : a.tmps[82]? = some (.bool true) := hd 12 rfl rfl
              have f5 : a.tmps[5]? = some (.pointer (some ⟨w3.heap.size, 0, none⟩)) := (hout 5 (by decide)).trans HF5.out
              clear hd ho hout hX
              refine wpOp_step rfl (fun K' hK' => ?_)
              go_simp
              exact hK' _ _ ⟨fun _ => rfl, fun h => absurd h (by decide), Below.refl _ _⟩
            | 14, ho =>
              obtain rfl := Option.some.inj ho
              have e12' : a.tmps[82]? = some (.bool true) := hd 12 rfl rfl
              clear hd ho hout hX
              refine wpOp_step rfl (fun K' hK' => ?_)
              go_simp
              exact hK' _ _ ⟨fun _ => rfl, fun h => absurd h (by decide), Below.refl _ _⟩
            | 15, ho =>
              obtain rfl := Option.some.inj ho
              have e12' : a.tmps[82]? = some (.bool true) := hd 12 rfl rfl
              have e13' : a.tmps[83]? = some (undef) := hd 13 rfl rfl
              have e14' : a.tmps[84]? = some (undef) := hd 14 rfl rfl
              clear hd ho hout hX
              refine wpOp_step rfl (fun K' hK' => ?_)
              go_simp
              exact hK' _ _ ⟨fun _ => rfl, fun h => absurd h (by decide), Below.refl _ _⟩
            | 16, ho =>
              obtain rfl := Option.some.inj ho
              have e10' : a.tmps[80]? = some (.bool true) := hd 10 rfl rfl
              have e12' : a.tmps[82]? = some (.bool true) := hd 12 rfl rfl
              have e15' : a.tmps[85]? = some (undef) := hd 15 rfl rfl
              clear hd ho hout hX
              refine wpOp_step rfl (fun K' hK' => ?_)
              go_simp
              exact hK' _ _ ⟨fun _ => rfl, fun h => absurd h (by decide), Below.refl _ _⟩
            | 17, ho =>
              obtain rfl := Option.some.inj ho
              have e10' : a.tmps[80]? = some (.bool true) := hd 10 rfl rfl
              have e16' : a.tmps[86]? = some (.bool true) := hd 16 rfl rfl
              clear hd ho hout hX
              refine wpOp_step rfl (fun K' hK' => ?_)
              go_simp
              exact hK' _ _ ⟨fun _ => rfl, fun h => absurd h (by decide), Below.refl _ _⟩
            | 18, ho =>
              obtain rfl := Option.some.inj ho
              have e17' : a.tmps[87]? = some (.bool true) := hd 17 rfl rfl
              clear hd ho hout hX
              refine wpOp_step rfl (fun K' hK' => ?_)
              go_simp
              exact hK' _ _ ⟨fun _ => rfl, fun h => absurd h (by decide), Below.refl _ _⟩
            | 19, ho =>
              obtain rfl := Option.some.inj ho
              have e18' : a.tmps[88]? = some (.bool true) := hd 18 rfl rfl
              have f8 : a.tmps[8]? = some (.bool false) := (hout 8 (by decide)).trans HF8.out
              clear hd ho hout hX
              refine wpOp_step rfl (fun K' hK' => ?_)
              go_simp
              exact hK' _ _ ⟨fun _ => rfl, fun h => absurd h (by decide), Below.refl _ _⟩
            | 20, ho =>
              obtain rfl := Option.some.inj ho
              have e18' : a.tmps[88]? = some (.bool true) := hd 18 rfl rfl
              have e19' : a.tmps[89]? = some (.bool false) := hd 19 rfl rfl
              clear hd ho hout hX
              refine wpOp_step rfl (fun K' hK' => ?_)
              go_simp
              exact hK' _ _ ⟨fun _ => rfl, fun h => absurd h (by decide), Below.refl _ _⟩
            | 21, ho =>
              obtain rfl := Option.some.inj ho
              have e20' : a.tmps[90]? = some (.bool false) := hd 20 rfl rfl
              have f7 : a.tmps[7]? = some (.pointer (some ⟨w4.heap.size, 0, none⟩)) := (hout 7 (by decide)).trans HF7.out
              clear hd ho hout hX
              refine wpOp_step rfl (fun K' hK' => ?_)
              obtain ⟨⟨p0, p1⟩, ⟨z0, z1, z2, z3⟩, ⟨g0, g1, g2, g3, g4⟩, hBu⟩ := HXU.out _ hu
              go_simp
              exact hK' _ _ ⟨fun _ => rfl, fun h => absurd h (by decide), Below.refl _ _⟩
            | 22, ho =>
              obtain rfl := Option.some.inj ho
              have e20' : a.tmps[90]? = some (.bool false) := hd 20 rfl rfl
              clear hd ho hout hX
              refine wpOp_step rfl (fun K' hK' => ?_)
              go_simp
              exact hK' _ _ ⟨fun _ => rfl, fun h => absurd h (by decide), Below.refl _ _⟩
            | 23, ho =>
              obtain rfl := Option.some.inj ho
              have e20' : a.tmps[90]? = some (.bool false) := hd 20 rfl rfl
              have e21' : a.tmps[91]? = some (.agg #[.string ⟨#[]⟩, .string ⟨#[]⟩, .int .i64 0, .slice a1 n1 c1, .slice a2 n2 c2]) := hd 21 rfl rfl
              have e22' : a.tmps[92]? = some (.agg #[.string ⟨#[]⟩, .string ⟨#[]⟩, .int .i64 0, .slice none 0 0, .slice none 0 0]) := hd 22 rfl rfl
              clear hd ho hout hX
              refine wpOp_step rfl (fun K' hK' => ?_)
              go_simp
              refine (HSCZ.out _ (HU6.out _ hu)).mono ?_
              rintro e w9 ⟨rfl, hb9⟩
              exact hK' _ _ ⟨fun _ => rfl, fun h => absurd h (by decide), hb9⟩
            | 24, ho =>
              obtain rfl := Option.some.inj ho
              have e18' : a.tmps[88]? = some (.bool true) := hd 18 rfl rfl
              have e20' : a.tmps[90]? = some (.bool false) := hd 20 rfl rfl
              have e23' : a.tmps[93]? = some (.bool true) := hd 23 rfl rfl
              clear hd ho hout hX
              refine wpOp_step rfl (fun K' hK' => ?_)
              go_simp
              exact hK' _ _ ⟨fun _ => rfl, fun h => absurd h (by decide), Below.refl _ _⟩
            | 25, ho =>
              obtain rfl := Option.some.inj ho
              have e18' : a.tmps[88]? = some (.bool true) := hd 18 rfl rfl
              have e24' : a.tmps[94]? = some (.bool true) := hd 24 rfl rfl
              clear hd ho hout hX
              refine wpOp_step rfl (fun K' hK' => ?_)
              go_simp
              exact hK' _ _ ⟨fun _ => rfl, fun h => absurd h (by decide), Below.refl _ _⟩
            | 26, ho =>
              obtain rfl := Option.some.inj ho
              have e25' : a.tmps[95]? = some (.bool true) := hd 25 rfl rfl
              clear hd ho hout hX
              refine wpOp_step rfl (fun K' hK' => ?_)
              go_simp
              exact hK' _ _ ⟨fun _ => rfl, fun h => absurd h (by decide), Below.refl _ _⟩
            | i + 27, ho => cases ho
          case fin =>
            intro v u hbu hv hg
            have hvv := setD_congr F.tmps (fun i => if i = 26 then 4 else 70 + i) 27 v (fun i => ((([.bool true, .bool true, .agg #[.slice (some ⟨bt, ot, none⟩) tn tcap, .slice ca m ccap], .string NB, undef, .agg #[.slice (some ⟨bt, ot, none⟩) tn tcap, .slice ca m ccap], .string NB, undef, .bool true, .bool true, .bool true, .bool true, .bool true, undef, undef, undef, .bool true, .bool true, .bool true, .bool false, .bool false, .agg #[.string ⟨#[]⟩, .string ⟨#[]⟩, .int .i64 0, .slice a1 n1 c1, .slice a2 n2 c2], .agg #[.string ⟨#[]⟩, .string ⟨#[]⟩, .int .i64 0, .slice none 0 0, .slice none 0 0], .bool true, .bool true, .bool true, .bool true] : List Value).set 4 (v 4)).set 7 (v 7)).getD i undef) (fun i hi => by
              rw [List.getD_eq_getElem?_getD]
              by_cases e4 : i = 4
              · subst e4; rfl
              by_cases e7 : i = 7
              · subst e7; rfl
              rw [List.getElem?_set_ne (Ne.symm e7), List.getElem?_set_ne (Ne.symm e4), hv i hi (by simp [e4, e7])]; rfl)
            rw [hvv, ← HF.out]
            clear hvv hv HF HSZ HF1 HF2 HF5 HF6 HF7 HF8
            simp only [setD, List.getD_cons_zero, List.getD_cons_succ, Nat.reduceAdd, List.setIfInBounds_toArray, List.set_cons_succ, List.set_cons_zero, if_true, if_false, reduceIte, Nat.reduceEqDiff]
            have hend := (HXU.out _ hbu).2.2.2
            clear hg hbu
            go_wp2_with fail
            all_goals (go_ret; exact ⟨rfl, hend⟩)
    · obtain rfl : k = -1 := by omega
      have hte := HTO.out.1 (by omega)
      have hOKT : OKT = false := by rw [← HOK.out.1]; exact decide_eq_false hk0
      obtain ⟨hN1, hN2, hN3, hN4⟩ := HNT.out
      rw [hte] at hN1 hN2 hN3 hN4
      have hN1' : (⟨#[]⟩ : ByteArray) = NT := hN1
      subst hOKT hN1' hN2 hN3 hN4
      clear hte hk0
      by_cases hq0 : 0 ≤ q
      · obtain ⟨y, rfl⟩ := Int.eq_ofNat_of_zero_le hq0
        have hym : y < m := by omega
        have hyl : y < s.classes.length := by rw [HMM.out.2]; exact hym
        have hce := HCO.out.2 hq0
        rw [Mt.clI_get hyl] at hce
        obtain ⟨bc, oc, mv, yv, e1, hbl, h0, h1, h2, h3, h4, hmv, hyv⟩ := HCS.out y hyl
        have hcm := HCM.out _ (List.getElem_mem hyl)
        rw [← hce] at hmv hyv hcm
        rw [← hce, HNC.out.1] at h0
        rw [← hce, HNC.out.2.1] at h1
        rw [← hce, HNC.out.2.2] at h2
        subst e1
        obtain ⟨am, cm, rfl, -, -⟩ := id hmv
        obtain ⟨ay, cy, rfl, -, -⟩ := id hyv
        have HSC : Hid (∀ u, Below w6.heap.size w6 u → Calls Try.prog 17 #[.agg #[.string NC, .string UC, .int .i64 kc, .slice a1 n1 c1, .slice a2 n2 c2], .agg #[.string NC, .string UC, .int .i64 kc, .slice am CO.must.length cm, .slice ay CO.may.length cy]] u fun e w' => e = .returned (.bool true) ∧ Below u.heap.size u w') := Lib.hid (fun u hu => sameClass_any (HM6.out.1.below hu) (HM6.out.2.below hu) (hmv.below (HX.out u hu).2.2.2) (hyv.below (HX.out u hu).2.2.2) hcm.2.2.1 hcm.2.2.2.1)
        obtain ⟨ml, hml⟩ : ∃ x, CO.must.length = x := ⟨_, rfl⟩
        obtain ⟨yl, hyl2⟩ : ∃ x, CO.may.length = x := ⟨_, rfl⟩
        rw [hml, hyl2] at HSC
        rw [hml] at h3
        rw [hyl2] at h4
        have HCY : Hid (∀ u, Below w.heap.size w u → u.cell? ⟨bc, oc + y * 5, none⟩ = some (.string NC) ∧ u.cell? ⟨bc, oc + y * 5 + 1, none⟩ = some (.string UC) ∧ u.cell? ⟨bc, oc + y * 5 + 2, none⟩ = some (.int .i64 kc) ∧ u.cell? ⟨bc, oc + y * 5 + 3, none⟩ = some (.slice am ml cm) ∧ u.cell? ⟨bc, oc + y * 5 + 4, none⟩ = some (.slice ay yl cy)) := Lib.hid (fun u hu => ⟨(hu.cell (p := ⟨bc, _, none⟩) hbl).trans h0, (hu.cell (p := ⟨bc, _, none⟩) hbl).trans h1, (hu.cell (p := ⟨bc, _, none⟩) hbl).trans h2, (hu.cell (p := ⟨bc, _, none⟩) hbl).trans h3, (hu.cell (p := ⟨bc, _, none⟩) hbl).trans h4⟩)
        have hOKC : OKC = true := by rw [← HOK.out.2]; exact decide_eq_true hq0
        subst hOKC
        have y0' : (0 : Int) ≤ (y : Int) := hq0
        have y1' : (y : Int) < (m : Int) := by omega
        clear h0 h1 h2 h3 h4 hbl hce hyl hq0 hmv hyv hcm hml hyl2
        go_upto_region 6 with fail
        generalize hF : (Act.mk _ _) = F
        have HF2 : Hid (F.tmps[2]? = some (.pointer (some ⟨w.heap.size, 0, none⟩))) := Lib.hid (by rw [← hF]; rfl)
        have HF5 : Hid (F.tmps[5]? = some (.pointer (some ⟨w3.heap.size, 0, none⟩))) := Lib.hid (by rw [← hF]; rfl)
        have HF6 : Hid (F.tmps[6]? = some (.bool false)) := Lib.hid (by rw [← hF]; rfl)
        have HF7 : Hid (F.tmps[7]? = some (.pointer (some ⟨w4.heap.size, 0, none⟩))) := Lib.hid (by rw [← hF]; rfl)
        have HF8 : Hid (F.tmps[8]? = some (.bool true)) := Lib.hid (by rw [← hF]; rfl)
        have HF9 : Hid (F.tmps[9]? = some (.int .i64 (-1))) := Lib.hid (by rw [← hF]; rfl)
        have HF10 : Hid (F.tmps[10]? = some (.int .i64 (y : Int))) := Lib.hid (by rw [← hF]; rfl)
        have HSZ : Hid (injD (fun i => 35 + i) 35 F.tmps.size = true) := Lib.hid (by rw [show F.tmps.size = 96 by rw [← hF]; rfl]; decide +kernel)
        have HF := Lib.hid hF
        clear hF
        refine wp_region_some (by kernel_rfl) F (fun i => 35 + i) [.bool false, .int .i64 (-1), .bool false, .bool false, .bool false, .bool true, .int .i64 (y : Int), .bool true, .bool false, .bool false, .bool false, .bool false, .bool false, undef, undef, undef, undef, undef, undef, undef, .bool false, .bool false, .bool false, .bool true, .bool true, .agg #[.string NC, .string UC, .int .i64 kc, .slice a1 n1 c1, .slice a2 n2 c2], .pointer (some ⟨w.heap.size, 1, none⟩), .slice (some ⟨bc, oc, none⟩) m ccap, .int .i64 (y : Int), .pointer (some ⟨bc, oc + y * 5, none⟩), .agg #[.string NC, .string UC, .int .i64 kc, .slice am ml cm, .slice ay yl cy], .bool true, .bool false, .bool false, .bool false] (fun _ => false) (fun _ _ _ => True) w6 35 (fun _ _ _ _ _ _ => trivial) rfl rfl HSZ.out (by kernel_rfl) (by kernel_rfl) ?step ?fin
        case step =>
          intro i o ho a X u hu hout hd hX
          match i, ho with
          | 0, ho =>
            obtain rfl := Option.some.inj ho
            have f6 : a.tmps[6]? = some (.bool false) := (hout 6 (by decide)).trans HF6.out
            clear hd ho hout hX
            refine wpOp_step rfl (fun K' hK' => ?_)
            go_simp
            exact hK' _ _ ⟨fun _ => rfl, fun h => absurd h (by decide), Below.refl _ _⟩
          | 1, ho =>
            obtain rfl := Option.some.inj ho
            have f9 : a.tmps[9]? = some (.int .i64 (-1)) := (hout 9 (by decide)).trans HF9.out
            clear hd ho hout hX
            refine wpOp_step rfl (fun K' hK' => ?_)
            go_simp
            exact hK' _ _ ⟨fun _ => rfl, fun h => absurd h (by decide), Below.refl _ _⟩
          | 2, ho =>
            obtain rfl := Option.some.inj ho
            have e1' : a.tmps[36]? = some (.int .i64 (-1)) := hd 1 rfl rfl
            clear hd ho hout hX
            refine wpOp_step rfl (fun K' hK' => ?_)
            go_simp
            exact hK' _ _ ⟨fun _ => rfl, fun h => absurd h (by decide), Below.refl _ _⟩
          | 3, ho =>
            obtain rfl := Option.some.inj ho
            have e0' : a.tmps[35]? = some (.bool false) := hd 0 rfl rfl
            have e2' : a.tmps[37]? = some (.bool false) := hd 2 rfl rfl
            clear hd ho hout hX
            refine wpOp_step rfl (fun K' hK' => ?_)
            go_simp
            exact hK' _ _ ⟨fun _ => rfl, fun h => absurd h (by decide), Below.refl _ _⟩
          | 4, ho =>
            obtain rfl := Option.some.inj ho
            have e3' : a.tmps[38]? = some (.bool false) := hd 3 rfl rfl
            clear hd ho hout hX
            refine wpOp_step rfl (fun K' hK' => ?_)
            go_simp
            exact hK' _ _ ⟨fun _ => rfl, fun h => absurd h (by decide), Below.refl _ _⟩
          | 5, ho =>
            obtain rfl := Option.some.inj ho
            have e4' : a.tmps[39]? = some (.bool false) := hd 4 rfl rfl
            have f8 : a.tmps[8]? = some (.bool true) := (hout 8 (by decide)).trans HF8.out
            clear hd ho hout hX
            refine wpOp_step rfl (fun K' hK' => ?_)
            go_simp
            exact hK' _ _ ⟨fun _ => rfl, fun h => absurd h (by decide), Below.refl _ _⟩
          | 6, ho =>
            obtain rfl := Option.some.inj ho
            have e4' : a.tmps[39]? = some (.bool false) := hd 4 rfl rfl
            have f10 : a.tmps[10]? = some (.int .i64 (y : Int)) := (hout 10 (by decide)).trans HF10.out
            clear hd ho hout hX
            refine wpOp_step rfl (fun K' hK' => ?_)
            go_simp
            exact hK' _ _ ⟨fun _ => rfl, fun h => absurd h (by decide), Below.refl _ _⟩
          | 7, ho =>
            obtain rfl := Option.some.inj ho
            have e4' : a.tmps[39]? = some (.bool false) := hd 4 rfl rfl
            have e6' : a.tmps[41]? = some (.int .i64 (y : Int)) := hd 6 rfl rfl
            clear hd ho hout hX
            refine wpOp_step rfl (fun K' hK' => ?_)
            go_simp
            exact hK' _ _ ⟨fun _ => rfl, fun h => absurd h (by decide), Below.refl _ _⟩
          | 8, ho =>
            obtain rfl := Option.some.inj ho
            have e4' : a.tmps[39]? = some (.bool false) := hd 4 rfl rfl
            have e5' : a.tmps[40]? = some (.bool true) := hd 5 rfl rfl
            have e7' : a.tmps[42]? = some (.bool true) := hd 7 rfl rfl
            clear hd ho hout hX
            refine wpOp_step rfl (fun K' hK' => ?_)
            go_simp
            exact hK' _ _ ⟨fun _ => rfl, fun h => absurd h (by decide), Below.refl _ _⟩
          | 9, ho =>
            obtain rfl := Option.some.inj ho
            have e4' : a.tmps[39]? = some (.bool false) := hd 4 rfl rfl
            have e8' : a.tmps[43]? = some (.bool false) := hd 8 rfl rfl
            clear hd ho hout hX
            refine wpOp_step rfl (fun K' hK' => ?_)
            go_simp
            exact hK' _ _ ⟨fun _ => rfl, fun h => absurd h (by decide), Below.refl _ _⟩
          | 10, ho =>
            obtain rfl := Option.some.inj ho
            have e9' : a.tmps[44]? = some (.bool false) := hd 9 rfl rfl
            clear hd ho hout hX
            refine wpOp_step rfl (fun K' hK' => ?_)
            go_simp
            exact hK' _ _ ⟨fun _ => rfl, fun h => absurd h (by decide), Below.refl _ _⟩
          | 11, ho =>
            obtain rfl := Option.some.inj ho
            have e10' : a.tmps[45]? = some (.bool false) := hd 10 rfl rfl
            have f6 : a.tmps[6]? = some (.bool false) := (hout 6 (by decide)).trans HF6.out
            clear hd ho hout hX
            refine wpOp_step rfl (fun K' hK' => ?_)
            go_simp
            exact hK' _ _ ⟨fun _ => rfl, fun h => absurd h (by decide), Below.refl _ _⟩
          | 12, ho =>
            obtain rfl := Option.some.inj ho
            have e10' : a.tmps[45]? = some (.bool false) := hd 10 rfl rfl
            have e11' : a.tmps[46]? = some (.bool false) := hd 11 rfl rfl
            clear hd ho hout hX
            refine wpOp_step rfl (fun K' hK' => ?_)
            go_simp
            exact hK' _ _ ⟨fun _ => rfl, fun h => absurd h (by decide), Below.refl _ _⟩
          | 13, ho =>
            obtain rfl := Option.some.inj ho
            have e12' : a.tmps[47]? = some (.bool false) := hd 12 rfl rfl
            have f5 : a.tmps[5]? = some (.pointer (some ⟨w3.heap.size, 0, none⟩)) := (hout 5 (by decide)).trans HF5.out
            clear hd ho hout hX
            refine wpOp_step rfl (fun K' hK' => ?_)
            go_simp
            exact hK' _ _ ⟨fun _ => rfl, fun h => absurd h (by decide), Below.refl _ _⟩
          | 14, ho =>
            obtain rfl := Option.some.inj ho
            have e12' : a.tmps[47]? = some (.bool false) := hd 12 rfl rfl
            have f2 : a.tmps[2]? = some (.pointer (some ⟨w.heap.size, 0, none⟩)) := (hout 2 (by decide)).trans HF2.out
            clear hd ho hout hX
            refine wpOp_step rfl (fun K' hK' => ?_)
            go_simp
            exact hK' _ _ ⟨fun _ => rfl, fun h => absurd h (by decide), Below.refl _ _⟩
          | 15, ho =>
            obtain rfl := Option.some.inj ho
            have e12' : a.tmps[47]? = some (.bool false) := hd 12 rfl rfl
            have e14' : a.tmps[49]? = some (undef) := hd 14 rfl rfl
            clear hd ho hout hX
            refine wpOp_step rfl (fun K' hK' => ?_)
            go_simp
            exact hK' _ _ ⟨fun _ => rfl, fun h => absurd h (by decide), Below.refl _ _⟩
          | 16, ho =>
            obtain rfl := Option.some.inj ho
            have e12' : a.tmps[47]? = some (.bool false) := hd 12 rfl rfl
            have f9 : a.tmps[9]? = some (.int .i64 (-1)) := (hout 9 (by decide)).trans HF9.out
            clear hd ho hout hX
            refine wpOp_step rfl (fun K' hK' => ?_)
            go_simp
            exact hK' _ _ ⟨fun _ => rfl, fun h => absurd h (by decide), Below.refl _ _⟩
          | 17, ho =>
            obtain rfl := Option.some.inj ho
            have e12' : a.tmps[47]? = some (.bool false) := hd 12 rfl rfl
            have e15' : a.tmps[50]? = some (undef) := hd 15 rfl rfl
            have e16' : a.tmps[51]? = some (undef) := hd 16 rfl rfl
            clear hd ho hout hX
            refine wpOp_step rfl (fun K' hK' => ?_)
            go_simp
            exact hK' _ _ ⟨fun _ => rfl, fun h => absurd h (by decide), Below.refl _ _⟩
          | 18, ho =>
            obtain rfl := Option.some.inj ho
            have e12' : a.tmps[47]? = some (.bool false) := hd 12 rfl rfl
            have e17' : a.tmps[52]? = some (undef) := hd 17 rfl rfl
            clear hd ho hout hX
            refine wpOp_step rfl (fun K' hK' => ?_)
            go_simp
            exact hK' _ _ ⟨fun _ => rfl, fun h => absurd h (by decide), Below.refl _ _⟩
          | 19, ho =>
            obtain rfl := Option.some.inj ho
            have e12' : a.tmps[47]? = some (.bool false) := hd 12 rfl rfl
            have e13' : a.tmps[48]? = some (undef) := hd 13 rfl rfl
            have e18' : a.tmps[53]? = some (undef) := hd 18 rfl rfl
            clear hd ho hout hX
            refine wpOp_step rfl (fun K' hK' => ?_)
            go_simp
            exact hK' _ _ ⟨fun _ => rfl, fun h => absurd h (by decide), Below.refl _ _⟩
          | 20, ho =>
            obtain rfl := Option.some.inj ho
            have e10' : a.tmps[45]? = some (.bool false) := hd 10 rfl rfl
            have e12' : a.tmps[47]? = some (.bool false) := hd 12 rfl rfl
            have e19' : a.tmps[54]? = some (undef) := hd 19 rfl rfl
            clear hd ho hout hX
            refine wpOp_step rfl (fun K' hK' => ?_)
            go_simp
            exact hK' _ _ ⟨fun _ => rfl, fun h => absurd h (by decide), Below.refl _ _⟩
          | 21, ho =>
            obtain rfl := Option.some.inj ho
            have e10' : a.tmps[45]? = some (.bool false) := hd 10 rfl rfl
            have e20' : a.tmps[55]? = some (.bool false) := hd 20 rfl rfl
            clear hd ho hout hX
            refine wpOp_step rfl (fun K' hK' => ?_)
            go_simp
            exact hK' _ _ ⟨fun _ => rfl, fun h => absurd h (by decide), Below.refl _ _⟩
          | 22, ho =>
            obtain rfl := Option.some.inj ho
            have e21' : a.tmps[56]? = some (.bool false) := hd 21 rfl rfl
            clear hd ho hout hX
            refine wpOp_step rfl (fun K' hK' => ?_)
            go_simp
            exact hK' _ _ ⟨fun _ => rfl, fun h => absurd h (by decide), Below.refl _ _⟩
          | 23, ho =>
            obtain rfl := Option.some.inj ho
            have e22' : a.tmps[57]? = some (.bool false) := hd 22 rfl rfl
            have f8 : a.tmps[8]? = some (.bool true) := (hout 8 (by decide)).trans HF8.out
            clear hd ho hout hX
            refine wpOp_step rfl (fun K' hK' => ?_)
            go_simp
            exact hK' _ _ ⟨fun _ => rfl, fun h => absurd h (by decide), Below.refl _ _⟩
          | 24, ho =>
            obtain rfl := Option.some.inj ho
            have e22' : a.tmps[57]? = some (.bool false) := hd 22 rfl rfl
            have e23' : a.tmps[58]? = some (.bool true) := hd 23 rfl rfl
            clear hd ho hout hX
            refine wpOp_step rfl (fun K' hK' => ?_)
            go_simp
            exact hK' _ _ ⟨fun _ => rfl, fun h => absurd h (by decide), Below.refl _ _⟩
          | 25, ho =>
            obtain rfl := Option.some.inj ho
            have e24' : a.tmps[59]? = some (.bool true) := hd 24 rfl rfl
            have f7 : a.tmps[7]? = some (.pointer (some ⟨w4.heap.size, 0, none⟩)) := (hout 7 (by decide)).trans HF7.out
            clear hd ho hout hX
            refine wpOp_step rfl (fun K' hK' => ?_)
            obtain ⟨⟨p0, p1⟩, ⟨z0, z1, z2, z3⟩, ⟨g0, g1, g2, g3, g4⟩, hBu⟩ := HX.out _ hu
            go_simp
            exact hK' _ _ ⟨fun _ => rfl, fun h => absurd h (by decide), Below.refl _ _⟩
          | 26, ho =>
            obtain rfl := Option.some.inj ho
            have e24' : a.tmps[59]? = some (.bool true) := hd 24 rfl rfl
            have f2 : a.tmps[2]? = some (.pointer (some ⟨w.heap.size, 0, none⟩)) := (hout 2 (by decide)).trans HF2.out
            clear hd ho hout hX
            refine wpOp_step rfl (fun K' hK' => ?_)
            go_simp
            exact hK' _ _ ⟨fun _ => rfl, fun h => absurd h (by decide), Below.refl _ _⟩
          | 27, ho =>
            obtain rfl := Option.some.inj ho
            have e24' : a.tmps[59]? = some (.bool true) := hd 24 rfl rfl
            have e26' : a.tmps[61]? = some (.pointer (some ⟨w.heap.size, 1, none⟩)) := hd 26 rfl rfl
            clear hd ho hout hX
            refine wpOp_step rfl (fun K' hK' => ?_)
            obtain ⟨⟨p0, p1⟩, ⟨z0, z1, z2, z3⟩, ⟨g0, g1, g2, g3, g4⟩, hBu⟩ := HX.out _ hu
            go_simp
            exact hK' _ _ ⟨fun _ => rfl, fun h => absurd h (by decide), Below.refl _ _⟩
          | 28, ho =>
            obtain rfl := Option.some.inj ho
            have e24' : a.tmps[59]? = some (.bool true) := hd 24 rfl rfl
            have f10 : a.tmps[10]? = some (.int .i64 (y : Int)) := (hout 10 (by decide)).trans HF10.out
            clear hd ho hout hX
            refine wpOp_step rfl (fun K' hK' => ?_)
            go_simp
            exact hK' _ _ ⟨fun _ => rfl, fun h => absurd h (by decide), Below.refl _ _⟩
          | 29, ho =>
            obtain rfl := Option.some.inj ho
            have e24' : a.tmps[59]? = some (.bool true) := hd 24 rfl rfl
            have e27' : a.tmps[62]? = some (.slice (some ⟨bc, oc, none⟩) m ccap) := hd 27 rfl rfl
            have e28' : a.tmps[63]? = some (.int .i64 (y : Int)) := hd 28 rfl rfl
            clear hd ho hout hX
            refine wpOp_step rfl (fun K' hK' => ?_)
            go_simp
            exact hK' _ _ ⟨fun _ => rfl, fun h => absurd h (by decide), Below.refl _ _⟩
          | 30, ho =>
            obtain rfl := Option.some.inj ho
            have e24' : a.tmps[59]? = some (.bool true) := hd 24 rfl rfl
            have e29' : a.tmps[64]? = some (.pointer (some ⟨bc, oc + y * 5, none⟩)) := hd 29 rfl rfl
            clear hd ho hout hX
            refine wpOp_step rfl (fun K' hK' => ?_)
            obtain ⟨⟨p0, p1⟩, ⟨z0, z1, z2, z3⟩, ⟨g0, g1, g2, g3, g4⟩, hBu⟩ := HX.out _ hu; obtain ⟨y0, y1, y2, y3, y4⟩ := HCY.out _ hBu
            go_simp
            exact hK' _ _ ⟨fun _ => rfl, fun h => absurd h (by decide), Below.refl _ _⟩
          | 31, ho =>
            obtain rfl := Option.some.inj ho
            have e24' : a.tmps[59]? = some (.bool true) := hd 24 rfl rfl
            have e25' : a.tmps[60]? = some (.agg #[.string NC, .string UC, .int .i64 kc, .slice a1 n1 c1, .slice a2 n2 c2]) := hd 25 rfl rfl
            have e30' : a.tmps[65]? = some (.agg #[.string NC, .string UC, .int .i64 kc, .slice am ml cm, .slice ay yl cy]) := hd 30 rfl rfl
            clear hd ho hout hX
            refine wpOp_step rfl (fun K' hK' => ?_)
            go_simp
            refine (HSC.out _ hu).mono ?_
            rintro e w9 ⟨rfl, hb9⟩
            exact hK' _ _ ⟨fun _ => rfl, fun h => absurd h (by decide), hb9⟩
          | 32, ho =>
            obtain rfl := Option.some.inj ho
            have e24' : a.tmps[59]? = some (.bool true) := hd 24 rfl rfl
            have e31' : a.tmps[66]? = some (.bool true) := hd 31 rfl rfl
            clear hd ho hout hX
            refine wpOp_step rfl (fun K' hK' => ?_)
            go_simp
            exact hK' _ _ ⟨fun _ => rfl, fun h => absurd h (by decide), Below.refl _ _⟩
          | 33, ho =>
            obtain rfl := Option.some.inj ho
            have e22' : a.tmps[57]? = some (.bool false) := hd 22 rfl rfl
            have e24' : a.tmps[59]? = some (.bool true) := hd 24 rfl rfl
            have e32' : a.tmps[67]? = some (.bool false) := hd 32 rfl rfl
            clear hd ho hout hX
            refine wpOp_step rfl (fun K' hK' => ?_)
            go_simp
            exact hK' _ _ ⟨fun _ => rfl, fun h => absurd h (by decide), Below.refl _ _⟩
          | 34, ho =>
            obtain rfl := Option.some.inj ho
            have e22' : a.tmps[57]? = some (.bool false) := hd 22 rfl rfl
            have e33' : a.tmps[68]? = some (.bool false) := hd 33 rfl rfl
            clear hd ho hout hX
            refine wpOp_step rfl (fun K' hK' => ?_)
            go_simp
            exact hK' _ _ ⟨fun _ => rfl, fun h => absurd h (by decide), Below.refl _ _⟩
          | i + 35, ho => cases ho
        case fin =>
          intro v u hbu hv hg
          have hvv := setD_congr F.tmps (fun i => 35 + i) 35 v (fun i => ([.bool false, .int .i64 (-1), .bool false, .bool false, .bool false, .bool true, .int .i64 (y : Int), .bool true, .bool false, .bool false, .bool false, .bool false, .bool false, undef, undef, undef, undef, undef, undef, undef, .bool false, .bool false, .bool false, .bool true, .bool true, .agg #[.string NC, .string UC, .int .i64 kc, .slice a1 n1 c1, .slice a2 n2 c2], .pointer (some ⟨w.heap.size, 1, none⟩), .slice (some ⟨bc, oc, none⟩) m ccap, .int .i64 (y : Int), .pointer (some ⟨bc, oc + y * 5, none⟩), .agg #[.string NC, .string UC, .int .i64 kc, .slice am ml cm, .slice ay yl cy], .bool true, .bool false, .bool false, .bool false] : List Value).getD i undef) (fun i hi => by
            rw [List.getD_eq_getElem?_getD, hv i hi rfl]; rfl)
          rw [hvv, ← HF.out]
          clear hvv hv HF HSZ HF2 HF5 HF6 HF7 HF8 HF9 HF10
          simp only [setD, List.getD_cons_zero, List.getD_cons_succ, Nat.reduceAdd, List.setIfInBounds_toArray, List.set_cons_succ, List.set_cons_zero, if_true, if_false, reduceIte, Nat.reduceEqDiff]
          have HXU := Lib.hid (fun (u' : World) (hu' : Below u.heap.size u u') => HX.out u' (hbu.trans (hu'.mono hbu.size)))
          have HU6 := Lib.hid (fun (u' : World) (hu' : Below u.heap.size u u') => hbu.trans (hu'.mono hbu.size))
          clear hg hbu
          go_upto_region 8 with fail
          generalize hF : (Act.mk _ _) = F
          have HF1 : Hid (F.tmps[1]? = some (.string NB)) := Lib.hid (by rw [← hF]; rfl)
          have HF2 : Hid (F.tmps[2]? = some (.pointer (some ⟨w.heap.size, 0, none⟩))) := Lib.hid (by rw [← hF]; rfl)
          have HF5 : Hid (F.tmps[5]? = some (.pointer (some ⟨w3.heap.size, 0, none⟩))) := Lib.hid (by rw [← hF]; rfl)
          have HF6 : Hid (F.tmps[6]? = some (.bool false)) := Lib.hid (by rw [← hF]; rfl)
          have HF7 : Hid (F.tmps[7]? = some (.pointer (some ⟨w4.heap.size, 0, none⟩))) := Lib.hid (by rw [← hF]; rfl)
          have HF8 : Hid (F.tmps[8]? = some (.bool true)) := Lib.hid (by rw [← hF]; rfl)
          have HSZ : Hid (injD (fun i => if i = 26 then 4 else 70 + i) 27 F.tmps.size = true) := Lib.hid (by rw [show F.tmps.size = 96 by rw [← hF]; rfl]; decide +kernel)
          have HF := Lib.hid hF
          clear hF
          refine wp_region_some (by kernel_rfl) F (fun i => if i = 26 then 4 else 70 + i) [.bool true, .bool true, .agg #[.slice ta tn tcap, .slice (some ⟨bc, oc, none⟩) m ccap], .string NB, undef, .agg #[.slice ta tn tcap, .slice (some ⟨bc, oc, none⟩) m ccap], .string NB, undef, .bool true, .bool true, .bool true, .bool false, .bool false, .agg #[.string ⟨#[]⟩, .int .i64 0, .bool false, .bool false], .agg #[.string ⟨#[]⟩, .int .i64 0, .bool false, .bool false], .bool true, .bool true, .bool true, .bool true, .bool true, .bool true, undef, undef, undef, .bool true, .bool true, .bool true] (fun i => i == 4 || i == 7) (fun _ x u => IsNms u x CN) u 27 (fun _ x u u' hb h => h.below hb) rfl rfl HSZ.out (by kernel_rfl) (by kernel_rfl) ?step ?fin
          case step =>
            intro i o ho a X u hu hout hd hX
            match i, ho with
            | 0, ho =>
              obtain rfl := Option.some.inj ho
              clear hd ho hout hX
              refine wpOp_step rfl (fun K' hK' => ?_)
              go_simp
              refine (HA.out _).mono ?_
              rintro e w9 ⟨rfl, hb9⟩
              exact hK' _ _ ⟨fun _ => rfl, fun h => absurd h (by decide), hb9⟩
            | 1, ho =>
              obtain rfl := Option.some.inj ho
              have e0' : a.tmps[70]? = some (.bool true) := hd 0 rfl rfl
              clear hd ho hout hX
              refine wpOp_step rfl (fun K' hK' => ?_)
              go_simp
              exact hK' _ _ ⟨fun _ => rfl, fun h => absurd h (by decide), Below.refl _ _⟩
            | 2, ho =>
              obtain rfl := Option.some.inj ho
              have e1' : a.tmps[71]? = some (.bool true) := hd 1 rfl rfl
              have f2 : a.tmps[2]? = some (.pointer (some ⟨w.heap.size, 0, none⟩)) := (hout 2 (by decide)).trans HF2.out
              clear hd ho hout hX
              refine wpOp_step rfl (fun K' hK' => ?_)
              obtain ⟨⟨p0, p1⟩, ⟨z0, z1, z2, z3⟩, ⟨g0, g1, g2, g3, g4⟩, hBu⟩ := HXU.out _ hu
              go_simp
              exact hK' _ _ ⟨fun _ => rfl, fun h => absurd h (by decide), Below.refl _ _⟩
            | 3, ho =>
              obtain rfl := Option.some.inj ho
              have e1' : a.tmps[71]? = some (.bool true) := hd 1 rfl rfl
              have f1 : a.tmps[1]? = some (.string NB) := (hout 1 (by decide)).trans HF1.out
              clear hd ho hout hX
              refine wpOp_step rfl (fun K' hK' => ?_)
              go_simp
              exact hK' _ _ ⟨fun _ => rfl, fun h => absurd h (by decide), Below.refl _ _⟩
            | 4, ho =>
              obtain rfl := Option.some.inj ho
              have e1' : a.tmps[71]? = some (.bool true) := hd 1 rfl rfl
              have e2' : a.tmps[72]? = some (.agg #[.slice ta tn tcap, .slice (some ⟨bc, oc, none⟩) m ccap]) := hd 2 rfl rfl
              have e3' : a.tmps[73]? = some (.string NB) := hd 3 rfl rfl
              clear hd ho hout hX
              refine wpOp_step rfl (fun K' hK' => ?_)
              go_simp
              refine (HCH.out _ (HXU.out _ hu).2.2.2).mono ?_
              rintro e w9 ⟨v9, rfl, hown, hb9⟩
              exact hK' _ _ ⟨fun h => absurd h (by decide), fun _ => ⟨v9, rfl, IsOwn.nms hown⟩, hb9⟩
            | 5, ho =>
              obtain rfl := Option.some.inj ho
              have e1' : a.tmps[71]? = some (.bool true) := hd 1 rfl rfl
              have f2 : a.tmps[2]? = some (.pointer (some ⟨w.heap.size, 0, none⟩)) := (hout 2 (by decide)).trans HF2.out
              clear hd ho hout hX
              refine wpOp_step rfl (fun K' hK' => ?_)
              obtain ⟨⟨p0, p1⟩, ⟨z0, z1, z2, z3⟩, ⟨g0, g1, g2, g3, g4⟩, hBu⟩ := HXU.out _ hu
              go_simp
              exact hK' _ _ ⟨fun _ => rfl, fun h => absurd h (by decide), Below.refl _ _⟩
            | 6, ho =>
              obtain rfl := Option.some.inj ho
              have e1' : a.tmps[71]? = some (.bool true) := hd 1 rfl rfl
              have f1 : a.tmps[1]? = some (.string NB) := (hout 1 (by decide)).trans HF1.out
              clear hd ho hout hX
              refine wpOp_step rfl (fun K' hK' => ?_)
              go_simp
              exact hK' _ _ ⟨fun _ => rfl, fun h => absurd h (by decide), Below.refl _ _⟩
            | 7, ho =>
              obtain rfl := Option.some.inj ho
              have e1' : a.tmps[71]? = some (.bool true) := hd 1 rfl rfl
              have e5' : a.tmps[75]? = some (.agg #[.slice ta tn tcap, .slice (some ⟨bc, oc, none⟩) m ccap]) := hd 5 rfl rfl
              have e6' : a.tmps[76]? = some (.string NB) := hd 6 rfl rfl
              clear hd ho hout hX
              refine wpOp_step rfl (fun K' hK' => ?_)
              go_simp
              refine (HRC.out HK0.out _ (HXU.out _ hu).2.2.2).mono ?_
              rintro e w9 ⟨v9, rfl, hown, hb9⟩
              exact hK' _ _ ⟨fun h => absurd h (by decide), fun _ => ⟨v9, rfl, IsOwn.nms hown⟩, hb9⟩
            | 8, ho =>
              obtain rfl := Option.some.inj ho
              have e1' : a.tmps[71]? = some (.bool true) := hd 1 rfl rfl
              obtain ⟨hx4', hg4'⟩ := hX 4 rfl rfl
              have hx4 : a.tmps[74]? = some (X 4) := hx4'
              have hg4 : IsNms u (X 4) CN := hg4'
              clear hx4' hg4'
              generalize X 4 = x4v at *
              obtain ⟨hx7', hg7'⟩ := hX 7 rfl rfl
              have hx7 : a.tmps[77]? = some (X 7) := hx7'
              have hg7 : IsNms u (X 7) CN := hg7'
              clear hx7' hg7'
              generalize X 7 = x7v at *
              clear hd ho hout hX
              refine wpOp_step rfl (fun K' hK' => ?_)
              go_simp
              refine (HSAME.out _ _ _ hg4 hg7).mono ?_
              rintro e w9 ⟨rfl, hb9⟩
              exact hK' _ _ ⟨fun _ => rfl, fun h => absurd h (by decide), hb9⟩
            | 9, ho =>
              obtain rfl := Option.some.inj ho
              have e1' : a.tmps[71]? = some (.bool true) := hd 1 rfl rfl
              have e8' : a.tmps[78]? = some (.bool true) := hd 8 rfl rfl
              clear hd ho hout hX
              refine wpOp_step rfl (fun K' hK' => ?_)
              go_simp
              exact hK' _ _ ⟨fun _ => rfl, fun h => absurd h (by decide), Below.refl _ _⟩
            | 10, ho =>
              obtain rfl := Option.some.inj ho
              have e9' : a.tmps[79]? = some (.bool true) := hd 9 rfl rfl
              clear hd ho hout hX
              refine wpOp_step rfl (fun K' hK' => ?_)
              go_simp
              exact hK' _ _ ⟨fun _ => rfl, fun h => absurd h (by decide), Below.refl _ _⟩
            | 11, ho =>
              obtain rfl := Option.some.inj ho
              have e10' : a.tmps[80]? = some (.bool true) := hd 10 rfl rfl
              have f6 : a.tmps[6]? = some (.bool false) := (hout 6 (by decide)).trans HF6.out
              clear hd ho hout hX
              refine wpOp_step rfl (fun K' hK' => ?_)
              go_simp
              exact hK' _ _ ⟨fun _ => rfl, fun h => absurd h (by decide), Below.refl _ _⟩
            | 12, ho =>
              obtain rfl := Option.some.inj ho
              have e10' : a.tmps[80]? = some (.bool true) := hd 10 rfl rfl
              have e11' : a.tmps[81]? = some (.bool false) := hd 11 rfl rfl
              clear hd ho hout hX
              refine wpOp_step rfl (fun K' hK' => ?_)
              go_simp
              exact hK' _ _ ⟨fun _ => rfl, fun h => absurd h (by decide), Below.refl _ _⟩
            | 13, ho =>
              obtain rfl := Option.some.inj ho
              have e12' : a.tmps[82]? = some (.bool false) := hd 12 rfl rfl
              have f5 : a.tmps[5]? = some (.pointer (some ⟨w3.heap.size, 0, none⟩)) := (hout 5 (by decide)).trans HF5.out
              clear hd ho hout hX
              refine wpOp_step rfl (fun K' hK' => ?_)
              obtain ⟨⟨p0, p1⟩, ⟨z0, z1, z2, z3⟩, ⟨g0, g1, g2, g3, g4⟩, hBu⟩ := HXU.out _ hu
              go_simp
              exact hK' _ _ ⟨fun _ => rfl, fun h => absurd h (by decide), Below.refl _ _⟩
            | 14, ho =>
              obtain rfl := Option.some.inj ho
              have e12' : a.tmps[82]? = some (.bool false) := hd 12 rfl rfl
              clear hd ho hout hX
              refine wpOp_step rfl (fun K' hK' => ?_)
              go_simp
              exact hK' _ _ ⟨fun _ => rfl, fun h => absurd h (by decide), Below.refl _ _⟩
            | 15, ho =>
              obtain rfl := Option.some.inj ho
              have e12' : a.tmps[82]? = some (.bool false) := hd 12 rfl rfl
              have e13' : a.tmps[83]? = some (.agg #[.string ⟨#[]⟩, .int .i64 0, .bool false, .bool false]) := hd 13 rfl rfl
              have e14' : a.tmps[84]? = some (.agg #[.string ⟨#[]⟩, .int .i64 0, .bool false, .bool false]) := hd 14 rfl rfl
              clear hd ho hout hX
              refine wpOp_step rfl (fun K' hK' => ?_)
              go_simp
              exact hK' _ _ ⟨fun _ => rfl, fun h => absurd h (by decide), Below.refl _ _⟩
            | 16, ho =>
              obtain rfl := Option.some.inj ho
              have e10' : a.tmps[80]? = some (.bool true) := hd 10 rfl rfl
              have e12' : a.tmps[82]? = some (.bool false) := hd 12 rfl rfl
              have e15' : a.tmps[85]? = some (.bool true) := hd 15 rfl rfl
              clear hd ho hout hX
              refine wpOp_step rfl (fun K' hK' => ?_)
              go_simp
              exact hK' _ _ ⟨fun _ => rfl, fun h => absurd h (by decide), Below.refl _ _⟩
            | 17, ho =>
              obtain rfl := Option.some.inj ho
              have e10' : a.tmps[80]? = some (.bool true) := hd 10 rfl rfl
              have e16' : a.tmps[86]? = some (.bool true) := hd 16 rfl rfl
              clear hd ho hout hX
              refine wpOp_step rfl (fun K' hK' => ?_)
              go_simp
              exact hK' _ _ ⟨fun _ => rfl, fun h => absurd h (by decide), Below.refl _ _⟩
            | 18, ho =>
              obtain rfl := Option.some.inj ho
              have e17' : a.tmps[87]? = some (.bool true) := hd 17 rfl rfl
              clear hd ho hout hX
              refine wpOp_step rfl (fun K' hK' => ?_)
              go_simp
              exact hK' _ _ ⟨fun _ => rfl, fun h => absurd h (by decide), Below.refl _ _⟩
            | 19, ho =>
              obtain rfl := Option.some.inj ho
              have e18' : a.tmps[88]? = some (.bool true) := hd 18 rfl rfl
              have f8 : a.tmps[8]? = some (.bool true) := (hout 8 (by decide)).trans HF8.out
              clear hd ho hout hX
              refine wpOp_step rfl (fun K' hK' => ?_)
              go_simp
              exact hK' _ _ ⟨fun _ => rfl, fun h => absurd h (by decide), Below.refl _ _⟩
            | 20, ho =>
              obtain rfl := Option.some.inj ho
              have e18' : a.tmps[88]? = some (.bool true) := hd 18 rfl rfl
              have e19' : a.tmps[89]? = some (.bool true) := hd 19 rfl rfl
              clear hd ho hout hX
              refine wpOp_step rfl (fun K' hK' => ?_)
              go_simp
              exact hK' _ _ ⟨fun _ => rfl, fun h => absurd h (by decide), Below.refl _ _⟩
            | 21, ho =>
              obtain rfl := Option.some.inj ho
              have e20' : a.tmps[90]? = some (.bool true) := hd 20 rfl rfl
              have f7 : a.tmps[7]? = some (.pointer (some ⟨w4.heap.size, 0, none⟩)) := (hout 7 (by decide)).trans HF7.out
              clear hd ho hout hX
              refine wpOp_step rfl (fun K' hK' => ?_)
              go_simp
              exact hK' _ _ ⟨fun _ => rfl, fun h => absurd h (by decide), Below.refl _ _⟩
            | 22, ho =>
              obtain rfl := Option.some.inj ho
              have e20' : a.tmps[90]? = some (.bool true) := hd 20 rfl rfl
              clear hd ho hout hX
              refine wpOp_step rfl (fun K' hK' => ?_)
              go_simp
              exact hK' _ _ ⟨fun _ => rfl, fun h => absurd h (by decide), Below.refl _ _⟩
            | 23, ho =>
              obtain rfl := Option.some.inj ho
              have e20' : a.tmps[90]? = some (.bool true) := hd 20 rfl rfl
              have e21' : a.tmps[91]? = some (undef) := hd 21 rfl rfl
              have e22' : a.tmps[92]? = some (undef) := hd 22 rfl rfl
              clear hd ho hout hX
              refine wpOp_step rfl (fun K' hK' => ?_)
              go_simp
              exact hK' _ _ ⟨fun _ => rfl, fun h => absurd h (by decide), Below.refl _ _⟩
            | 24, ho =>
              obtain rfl := Option.some.inj ho
              have e18' : a.tmps[88]? = some (.bool true) := hd 18 rfl rfl
              have e20' : a.tmps[90]? = some (.bool true) := hd 20 rfl rfl
              have e23' : a.tmps[93]? = some (undef) := hd 23 rfl rfl
              clear hd ho hout hX
              refine wpOp_step rfl (fun K' hK' => ?_)
              go_simp
              exact hK' _ _ ⟨fun _ => rfl, fun h => absurd h (by decide), Below.refl _ _⟩
            | 25, ho =>
              obtain rfl := Option.some.inj ho
              have e18' : a.tmps[88]? = some (.bool true) := hd 18 rfl rfl
              have e24' : a.tmps[94]? = some (.bool true) := hd 24 rfl rfl
              clear hd ho hout hX
              refine wpOp_step rfl (fun K' hK' => ?_)
              go_simp
              exact hK' _ _ ⟨fun _ => rfl, fun h => absurd h (by decide), Below.refl _ _⟩
            | 26, ho =>
              obtain rfl := Option.some.inj ho
              have e25' : a.tmps[95]? = some (.bool true) := hd 25 rfl rfl
              clear hd ho hout hX
              refine wpOp_step rfl (fun K' hK' => ?_)
              go_simp
              exact hK' _ _ ⟨fun _ => rfl, fun h => absurd h (by decide), Below.refl _ _⟩
            | i + 27, ho => cases ho
          case fin =>
            intro v u hbu hv hg
            have hvv := setD_congr F.tmps (fun i => if i = 26 then 4 else 70 + i) 27 v (fun i => ((([.bool true, .bool true, .agg #[.slice ta tn tcap, .slice (some ⟨bc, oc, none⟩) m ccap], .string NB, undef, .agg #[.slice ta tn tcap, .slice (some ⟨bc, oc, none⟩) m ccap], .string NB, undef, .bool true, .bool true, .bool true, .bool false, .bool false, .agg #[.string ⟨#[]⟩, .int .i64 0, .bool false, .bool false], .agg #[.string ⟨#[]⟩, .int .i64 0, .bool false, .bool false], .bool true, .bool true, .bool true, .bool true, .bool true, .bool true, undef, undef, undef, .bool true, .bool true, .bool true] : List Value).set 4 (v 4)).set 7 (v 7)).getD i undef) (fun i hi => by
              rw [List.getD_eq_getElem?_getD]
              by_cases e4 : i = 4
              · subst e4; rfl
              by_cases e7 : i = 7
              · subst e7; rfl
              rw [List.getElem?_set_ne (Ne.symm e7), List.getElem?_set_ne (Ne.symm e4), hv i hi (by simp [e4, e7])]; rfl)
            rw [hvv, ← HF.out]
            clear hvv hv HF HSZ HF1 HF2 HF5 HF6 HF7 HF8
            simp only [setD, List.getD_cons_zero, List.getD_cons_succ, Nat.reduceAdd, List.setIfInBounds_toArray, List.set_cons_succ, List.set_cons_zero, if_true, if_false, reduceIte, Nat.reduceEqDiff]
            have hend := (HXU.out _ hbu).2.2.2
            clear hg hbu
            go_wp2_with fail
            all_goals (go_ret; exact ⟨rfl, hend⟩)
      · obtain rfl : q = -1 := by omega
        have hce := HCO.out.1 (by omega)
        have hOKC : OKC = false := by rw [← HOK.out.2]; exact decide_eq_false hq0
        obtain ⟨hC1, hC2, hC3⟩ := HNC.out
        rw [hce] at hC1 hC2 hC3
        have hC1' : (⟨#[]⟩ : ByteArray) = NC := hC1
        have hC2' : (⟨#[]⟩ : ByteArray) = UC := hC2
        have HM7 : Hid (IsNms w6 (.slice a1 n1 c1) [] ∧ IsNms w6 (.slice a2 n2 c2) []) := Lib.hid (by have := HM6.out; rw [hce] at this; exact this)
        subst hOKC hC1' hC2' hC3
        clear hce hq0
        have HSCZ : Hid (∀ u, Below w6.heap.size w6 u → Calls Try.prog 17 #[.agg #[.string ⟨#[]⟩, .string ⟨#[]⟩, .int .i64 0, .slice a1 n1 c1, .slice a2 n2 c2], .agg #[.string ⟨#[]⟩, .string ⟨#[]⟩, .int .i64 0, .slice none 0 0, .slice none 0 0]] u fun e w' => e = .returned (.bool true) ∧ Below u.heap.size u w') := Lib.hid (fun u hu => sameClass_any (HM7.out.1.below hu) (HM7.out.2.below hu) (nms_none u) (nms_none u) (by decide) (by decide))
        go_upto_region 6 with fail
        generalize hF : (Act.mk _ _) = F
        have HF2 : Hid (F.tmps[2]? = some (.pointer (some ⟨w.heap.size, 0, none⟩))) := Lib.hid (by rw [← hF]; rfl)
        have HF5 : Hid (F.tmps[5]? = some (.pointer (some ⟨w3.heap.size, 0, none⟩))) := Lib.hid (by rw [← hF]; rfl)
        have HF6 : Hid (F.tmps[6]? = some (.bool false)) := Lib.hid (by rw [← hF]; rfl)
        have HF7 : Hid (F.tmps[7]? = some (.pointer (some ⟨w4.heap.size, 0, none⟩))) := Lib.hid (by rw [← hF]; rfl)
        have HF8 : Hid (F.tmps[8]? = some (.bool false)) := Lib.hid (by rw [← hF]; rfl)
        have HF9 : Hid (F.tmps[9]? = some (.int .i64 (-1))) := Lib.hid (by rw [← hF]; rfl)
        have HF10 : Hid (F.tmps[10]? = some (.int .i64 (-1))) := Lib.hid (by rw [← hF]; rfl)
        have HSZ : Hid (injD (fun i => 35 + i) 35 F.tmps.size = true) := Lib.hid (by rw [show F.tmps.size = 96 by rw [← hF]; rfl]; decide +kernel)
        have HF := Lib.hid hF
        clear hF
        refine wp_region_some (by kernel_rfl) F (fun i => 35 + i) [.bool false, .int .i64 (-1), .bool false, .bool false, .bool false, .bool false, .int .i64 (-1), .bool false, .bool false, .bool false, .bool false, .bool false, .bool false, undef, undef, undef, undef, undef, undef, undef, .bool false, .bool false, .bool false, .bool false, .bool false, undef, undef, undef, undef, undef, undef, undef, undef, .bool false, .bool false] (fun _ => false) (fun _ _ _ => True) w6 35 (fun _ _ _ _ _ _ => trivial) rfl rfl HSZ.out (by kernel_rfl) (by kernel_rfl) ?step ?fin
        case step =>
          intro i o ho a X u hu hout hd hX
          match i, ho with
          | 0, ho =>
            obtain rfl := Option.some.inj ho
            have f6 : a.tmps[6]? = some (.bool false) := (hout 6 (by decide)).trans HF6.out
            clear hd ho hout hX
            refine wpOp_step rfl (fun K' hK' => ?_)
            go_simp
            exact hK' _ _ ⟨fun _ => rfl, fun h => absurd h (by decide), Below.refl _ _⟩
          | 1, ho =>
            obtain rfl := Option.some.inj ho
            have f9 : a.tmps[9]? = some (.int .i64 (-1)) := (hout 9 (by decide)).trans HF9.out
            clear hd ho hout hX
            refine wpOp_step rfl (fun K' hK' => ?_)
            go_simp
            exact hK' _ _ ⟨fun _ => rfl, fun h => absurd h (by decide), Below.refl _ _⟩
          | 2, ho =>
            obtain rfl := Option.some.inj ho
            have e1' : a.tmps[36]? = some (.int .i64 (-1)) := hd 1 rfl rfl
            clear hd ho hout hX
            refine wpOp_step rfl (fun K' hK' => ?_)
            go_simp
            exact hK' _ _ ⟨fun _ => rfl, fun h => absurd h (by decide), Below.refl _ _⟩
          | 3, ho =>
            obtain rfl := Option.some.inj ho
            have e0' : a.tmps[35]? = some (.bool false) := hd 0 rfl rfl
            have e2' : a.tmps[37]? = some (.bool false) := hd 2 rfl rfl
            clear hd ho hout hX
            refine wpOp_step rfl (fun K' hK' => ?_)
            go_simp
            exact hK' _ _ ⟨fun _ => rfl, fun h => absurd h (by decide), Below.refl _ _⟩
          | 4, ho =>
            obtain rfl := Option.some.inj ho
            have e3' : a.tmps[38]? = some (.bool false) := hd 3 rfl rfl
            clear hd ho hout hX
            refine wpOp_step rfl (fun K' hK' => ?_)
            go_simp
            exact hK' _ _ ⟨fun _ => rfl, fun h => absurd h (by decide), Below.refl _ _⟩
          | 5, ho =>
            obtain rfl := Option.some.inj ho
            have e4' : a.tmps[39]? = some (.bool false) := hd 4 rfl rfl
            have f8 : a.tmps[8]? = some (.bool false) := (hout 8 (by decide)).trans HF8.out
            clear hd ho hout hX
            refine wpOp_step rfl (fun K' hK' => ?_)
            go_simp
            exact hK' _ _ ⟨fun _ => rfl, fun h => absurd h (by decide), Below.refl _ _⟩
          | 6, ho =>
            obtain rfl := Option.some.inj ho
            have e4' : a.tmps[39]? = some (.bool false) := hd 4 rfl rfl
            have f10 : a.tmps[10]? = some (.int .i64 (-1)) := (hout 10 (by decide)).trans HF10.out
            clear hd ho hout hX
            refine wpOp_step rfl (fun K' hK' => ?_)
            go_simp
            exact hK' _ _ ⟨fun _ => rfl, fun h => absurd h (by decide), Below.refl _ _⟩
          | 7, ho =>
            obtain rfl := Option.some.inj ho
            have e4' : a.tmps[39]? = some (.bool false) := hd 4 rfl rfl
            have e6' : a.tmps[41]? = some (.int .i64 (-1)) := hd 6 rfl rfl
            clear hd ho hout hX
            refine wpOp_step rfl (fun K' hK' => ?_)
            go_simp
            exact hK' _ _ ⟨fun _ => rfl, fun h => absurd h (by decide), Below.refl _ _⟩
          | 8, ho =>
            obtain rfl := Option.some.inj ho
            have e4' : a.tmps[39]? = some (.bool false) := hd 4 rfl rfl
            have e5' : a.tmps[40]? = some (.bool false) := hd 5 rfl rfl
            have e7' : a.tmps[42]? = some (.bool false) := hd 7 rfl rfl
            clear hd ho hout hX
            refine wpOp_step rfl (fun K' hK' => ?_)
            go_simp
            exact hK' _ _ ⟨fun _ => rfl, fun h => absurd h (by decide), Below.refl _ _⟩
          | 9, ho =>
            obtain rfl := Option.some.inj ho
            have e4' : a.tmps[39]? = some (.bool false) := hd 4 rfl rfl
            have e8' : a.tmps[43]? = some (.bool false) := hd 8 rfl rfl
            clear hd ho hout hX
            refine wpOp_step rfl (fun K' hK' => ?_)
            go_simp
            exact hK' _ _ ⟨fun _ => rfl, fun h => absurd h (by decide), Below.refl _ _⟩
          | 10, ho =>
            obtain rfl := Option.some.inj ho
            have e9' : a.tmps[44]? = some (.bool false) := hd 9 rfl rfl
            clear hd ho hout hX
            refine wpOp_step rfl (fun K' hK' => ?_)
            go_simp
            exact hK' _ _ ⟨fun _ => rfl, fun h => absurd h (by decide), Below.refl _ _⟩
          | 11, ho =>
            obtain rfl := Option.some.inj ho
            have e10' : a.tmps[45]? = some (.bool false) := hd 10 rfl rfl
            have f6 : a.tmps[6]? = some (.bool false) := (hout 6 (by decide)).trans HF6.out
            clear hd ho hout hX
            refine wpOp_step rfl (fun K' hK' => ?_)
            go_simp
            exact hK' _ _ ⟨fun _ => rfl, fun h => absurd h (by decide), Below.refl _ _⟩
          | 12, ho =>
            obtain rfl := Option.some.inj ho
            have e10' : a.tmps[45]? = some (.bool false) := hd 10 rfl rfl
            have e11' : a.tmps[46]? = some (.bool false) := hd 11 rfl rfl
            clear hd ho hout hX
            refine wpOp_step rfl (fun K' hK' => ?_)
            go_simp
            exact hK' _ _ ⟨fun _ => rfl, fun h => absurd h (by decide), Below.refl _ _⟩
          | 13, ho =>
            obtain rfl := Option.some.inj ho
            have e12' : a.tmps[47]? = some (.bool false) := hd 12 rfl rfl
            have f5 : a.tmps[5]? = some (.pointer (some ⟨w3.heap.size, 0, none⟩)) := (hout 5 (by decide)).trans HF5.out
            clear hd ho hout hX
            refine wpOp_step rfl (fun K' hK' => ?_)
            go_simp
            exact hK' _ _ ⟨fun _ => rfl, fun h => absurd h (by decide), Below.refl _ _⟩
          | 14, ho =>
            obtain rfl := Option.some.inj ho
            have e12' : a.tmps[47]? = some (.bool false) := hd 12 rfl rfl
            have f2 : a.tmps[2]? = some (.pointer (some ⟨w.heap.size, 0, none⟩)) := (hout 2 (by decide)).trans HF2.out
            clear hd ho hout hX
            refine wpOp_step rfl (fun K' hK' => ?_)
            go_simp
            exact hK' _ _ ⟨fun _ => rfl, fun h => absurd h (by decide), Below.refl _ _⟩
          | 15, ho =>
            obtain rfl := Option.some.inj ho
            have e12' : a.tmps[47]? = some (.bool false) := hd 12 rfl rfl
            have e14' : a.tmps[49]? = some (undef) := hd 14 rfl rfl
            clear hd ho hout hX
            refine wpOp_step rfl (fun K' hK' => ?_)
            go_simp
            exact hK' _ _ ⟨fun _ => rfl, fun h => absurd h (by decide), Below.refl _ _⟩
          | 16, ho =>
            obtain rfl := Option.some.inj ho
            have e12' : a.tmps[47]? = some (.bool false) := hd 12 rfl rfl
            have f9 : a.tmps[9]? = some (.int .i64 (-1)) := (hout 9 (by decide)).trans HF9.out
            clear hd ho hout hX
            refine wpOp_step rfl (fun K' hK' => ?_)
            go_simp
            exact hK' _ _ ⟨fun _ => rfl, fun h => absurd h (by decide), Below.refl _ _⟩
          | 17, ho =>
            obtain rfl := Option.some.inj ho
            have e12' : a.tmps[47]? = some (.bool false) := hd 12 rfl rfl
            have e15' : a.tmps[50]? = some (undef) := hd 15 rfl rfl
            have e16' : a.tmps[51]? = some (undef) := hd 16 rfl rfl
            clear hd ho hout hX
            refine wpOp_step rfl (fun K' hK' => ?_)
            go_simp
            exact hK' _ _ ⟨fun _ => rfl, fun h => absurd h (by decide), Below.refl _ _⟩
          | 18, ho =>
            obtain rfl := Option.some.inj ho
            have e12' : a.tmps[47]? = some (.bool false) := hd 12 rfl rfl
            have e17' : a.tmps[52]? = some (undef) := hd 17 rfl rfl
            clear hd ho hout hX
            refine wpOp_step rfl (fun K' hK' => ?_)
            go_simp
            exact hK' _ _ ⟨fun _ => rfl, fun h => absurd h (by decide), Below.refl _ _⟩
          | 19, ho =>
            obtain rfl := Option.some.inj ho
            have e12' : a.tmps[47]? = some (.bool false) := hd 12 rfl rfl
            have e13' : a.tmps[48]? = some (undef) := hd 13 rfl rfl
            have e18' : a.tmps[53]? = some (undef) := hd 18 rfl rfl
            clear hd ho hout hX
            refine wpOp_step rfl (fun K' hK' => ?_)
            go_simp
            exact hK' _ _ ⟨fun _ => rfl, fun h => absurd h (by decide), Below.refl _ _⟩
          | 20, ho =>
            obtain rfl := Option.some.inj ho
            have e10' : a.tmps[45]? = some (.bool false) := hd 10 rfl rfl
            have e12' : a.tmps[47]? = some (.bool false) := hd 12 rfl rfl
            have e19' : a.tmps[54]? = some (undef) := hd 19 rfl rfl
            clear hd ho hout hX
            refine wpOp_step rfl (fun K' hK' => ?_)
            go_simp
            exact hK' _ _ ⟨fun _ => rfl, fun h => absurd h (by decide), Below.refl _ _⟩
          | 21, ho =>
            obtain rfl := Option.some.inj ho
            have e10' : a.tmps[45]? = some (.bool false) := hd 10 rfl rfl
            have e20' : a.tmps[55]? = some (.bool false) := hd 20 rfl rfl
            clear hd ho hout hX
            refine wpOp_step rfl (fun K' hK' => ?_)
            go_simp
            exact hK' _ _ ⟨fun _ => rfl, fun h => absurd h (by decide), Below.refl _ _⟩
          | 22, ho =>
            obtain rfl := Option.some.inj ho
            have e21' : a.tmps[56]? = some (.bool false) := hd 21 rfl rfl
            clear hd ho hout hX
            refine wpOp_step rfl (fun K' hK' => ?_)
            go_simp
            exact hK' _ _ ⟨fun _ => rfl, fun h => absurd h (by decide), Below.refl _ _⟩
          | 23, ho =>
            obtain rfl := Option.some.inj ho
            have e22' : a.tmps[57]? = some (.bool false) := hd 22 rfl rfl
            have f8 : a.tmps[8]? = some (.bool false) := (hout 8 (by decide)).trans HF8.out
            clear hd ho hout hX
            refine wpOp_step rfl (fun K' hK' => ?_)
            go_simp
            exact hK' _ _ ⟨fun _ => rfl, fun h => absurd h (by decide), Below.refl _ _⟩
          | 24, ho =>
            obtain rfl := Option.some.inj ho
            have e22' : a.tmps[57]? = some (.bool false) := hd 22 rfl rfl
            have e23' : a.tmps[58]? = some (.bool false) := hd 23 rfl rfl
            clear hd ho hout hX
            refine wpOp_step rfl (fun K' hK' => ?_)
            go_simp
            exact hK' _ _ ⟨fun _ => rfl, fun h => absurd h (by decide), Below.refl _ _⟩
          | 25, ho =>
            obtain rfl := Option.some.inj ho
            have e24' : a.tmps[59]? = some (.bool false) := hd 24 rfl rfl
            have f7 : a.tmps[7]? = some (.pointer (some ⟨w4.heap.size, 0, none⟩)) := (hout 7 (by decide)).trans HF7.out
            clear hd ho hout hX
            refine wpOp_step rfl (fun K' hK' => ?_)
            go_simp
            exact hK' _ _ ⟨fun _ => rfl, fun h => absurd h (by decide), Below.refl _ _⟩
          | 26, ho =>
            obtain rfl := Option.some.inj ho
            have e24' : a.tmps[59]? = some (.bool false) := hd 24 rfl rfl
            have f2 : a.tmps[2]? = some (.pointer (some ⟨w.heap.size, 0, none⟩)) := (hout 2 (by decide)).trans HF2.out
            clear hd ho hout hX
            refine wpOp_step rfl (fun K' hK' => ?_)
            go_simp
            exact hK' _ _ ⟨fun _ => rfl, fun h => absurd h (by decide), Below.refl _ _⟩
          | 27, ho =>
            obtain rfl := Option.some.inj ho
            have e24' : a.tmps[59]? = some (.bool false) := hd 24 rfl rfl
            have e26' : a.tmps[61]? = some (undef) := hd 26 rfl rfl
            clear hd ho hout hX
            refine wpOp_step rfl (fun K' hK' => ?_)
            go_simp
            exact hK' _ _ ⟨fun _ => rfl, fun h => absurd h (by decide), Below.refl _ _⟩
          | 28, ho =>
            obtain rfl := Option.some.inj ho
            have e24' : a.tmps[59]? = some (.bool false) := hd 24 rfl rfl
            have f10 : a.tmps[10]? = some (.int .i64 (-1)) := (hout 10 (by decide)).trans HF10.out
            clear hd ho hout hX
            refine wpOp_step rfl (fun K' hK' => ?_)
            go_simp
            exact hK' _ _ ⟨fun _ => rfl, fun h => absurd h (by decide), Below.refl _ _⟩
          | 29, ho =>
            obtain rfl := Option.some.inj ho
            have e24' : a.tmps[59]? = some (.bool false) := hd 24 rfl rfl
            have e27' : a.tmps[62]? = some (undef) := hd 27 rfl rfl
            have e28' : a.tmps[63]? = some (undef) := hd 28 rfl rfl
            clear hd ho hout hX
            refine wpOp_step rfl (fun K' hK' => ?_)
            go_simp
            exact hK' _ _ ⟨fun _ => rfl, fun h => absurd h (by decide), Below.refl _ _⟩
          | 30, ho =>
            obtain rfl := Option.some.inj ho
            have e24' : a.tmps[59]? = some (.bool false) := hd 24 rfl rfl
            have e29' : a.tmps[64]? = some (undef) := hd 29 rfl rfl
            clear hd ho hout hX
            refine wpOp_step rfl (fun K' hK' => ?_)
            go_simp
            exact hK' _ _ ⟨fun _ => rfl, fun h => absurd h (by decide), Below.refl _ _⟩
          | 31, ho =>
            obtain rfl := Option.some.inj ho
            have e24' : a.tmps[59]? = some (.bool false) := hd 24 rfl rfl
            have e25' : a.tmps[60]? = some (undef) := hd 25 rfl rfl
            have e30' : a.tmps[65]? = some (undef) := hd 30 rfl rfl
            clear hd ho hout hX
            refine wpOp_step rfl (fun K' hK' => ?_)
            go_simp
            exact hK' _ _ ⟨fun _ => rfl, fun h => absurd h (by decide), Below.refl _ _⟩
          | 32, ho =>
            obtain rfl := Option.some.inj ho
            have e24' : a.tmps[59]? = some (.bool false) := hd 24 rfl rfl
            have e31' : a.tmps[66]? = some (undef) := hd 31 rfl rfl
            clear hd ho hout hX
            refine wpOp_step rfl (fun K' hK' => ?_)
            go_simp
            exact hK' _ _ ⟨fun _ => rfl, fun h => absurd h (by decide), Below.refl _ _⟩
          | 33, ho =>
            obtain rfl := Option.some.inj ho
            have e22' : a.tmps[57]? = some (.bool false) := hd 22 rfl rfl
            have e24' : a.tmps[59]? = some (.bool false) := hd 24 rfl rfl
            have e32' : a.tmps[67]? = some (undef) := hd 32 rfl rfl
            clear hd ho hout hX
            refine wpOp_step rfl (fun K' hK' => ?_)
            go_simp
            exact hK' _ _ ⟨fun _ => rfl, fun h => absurd h (by decide), Below.refl _ _⟩
          | 34, ho =>
            obtain rfl := Option.some.inj ho
            have e22' : a.tmps[57]? = some (.bool false) := hd 22 rfl rfl
            have e33' : a.tmps[68]? = some (.bool false) := hd 33 rfl rfl
            clear hd ho hout hX
            refine wpOp_step rfl (fun K' hK' => ?_)
            go_simp
            exact hK' _ _ ⟨fun _ => rfl, fun h => absurd h (by decide), Below.refl _ _⟩
          | i + 35, ho => cases ho
        case fin =>
          intro v u hbu hv hg
          have hvv := setD_congr F.tmps (fun i => 35 + i) 35 v (fun i => ([.bool false, .int .i64 (-1), .bool false, .bool false, .bool false, .bool false, .int .i64 (-1), .bool false, .bool false, .bool false, .bool false, .bool false, .bool false, undef, undef, undef, undef, undef, undef, undef, .bool false, .bool false, .bool false, .bool false, .bool false, undef, undef, undef, undef, undef, undef, undef, undef, .bool false, .bool false] : List Value).getD i undef) (fun i hi => by
            rw [List.getD_eq_getElem?_getD, hv i hi rfl]; rfl)
          rw [hvv, ← HF.out]
          clear hvv hv HF HSZ HF2 HF5 HF6 HF7 HF8 HF9 HF10
          simp only [setD, List.getD_cons_zero, List.getD_cons_succ, Nat.reduceAdd, List.setIfInBounds_toArray, List.set_cons_succ, List.set_cons_zero, if_true, if_false, reduceIte, Nat.reduceEqDiff]
          have HXU := Lib.hid (fun (u' : World) (hu' : Below u.heap.size u u') => HX.out u' (hbu.trans (hu'.mono hbu.size)))
          have HU6 := Lib.hid (fun (u' : World) (hu' : Below u.heap.size u u') => hbu.trans (hu'.mono hbu.size))
          clear hg hbu
          go_upto_region 8 with fail
          generalize hF : (Act.mk _ _) = F
          have HF1 : Hid (F.tmps[1]? = some (.string NB)) := Lib.hid (by rw [← hF]; rfl)
          have HF2 : Hid (F.tmps[2]? = some (.pointer (some ⟨w.heap.size, 0, none⟩))) := Lib.hid (by rw [← hF]; rfl)
          have HF5 : Hid (F.tmps[5]? = some (.pointer (some ⟨w3.heap.size, 0, none⟩))) := Lib.hid (by rw [← hF]; rfl)
          have HF6 : Hid (F.tmps[6]? = some (.bool false)) := Lib.hid (by rw [← hF]; rfl)
          have HF7 : Hid (F.tmps[7]? = some (.pointer (some ⟨w4.heap.size, 0, none⟩))) := Lib.hid (by rw [← hF]; rfl)
          have HF8 : Hid (F.tmps[8]? = some (.bool false)) := Lib.hid (by rw [← hF]; rfl)
          have HSZ : Hid (injD (fun i => if i = 26 then 4 else 70 + i) 27 F.tmps.size = true) := Lib.hid (by rw [show F.tmps.size = 96 by rw [← hF]; rfl]; decide +kernel)
          have HF := Lib.hid hF
          clear hF
          refine wp_region_some (by kernel_rfl) F (fun i => if i = 26 then 4 else 70 + i) [.bool true, .bool true, .agg #[.slice ta tn tcap, .slice ca m ccap], .string NB, undef, .agg #[.slice ta tn tcap, .slice ca m ccap], .string NB, undef, .bool true, .bool true, .bool true, .bool false, .bool false, .agg #[.string ⟨#[]⟩, .int .i64 0, .bool false, .bool false], .agg #[.string ⟨#[]⟩, .int .i64 0, .bool false, .bool false], .bool true, .bool true, .bool true, .bool true, .bool false, .bool false, .agg #[.string ⟨#[]⟩, .string ⟨#[]⟩, .int .i64 0, .slice a1 n1 c1, .slice a2 n2 c2], .agg #[.string ⟨#[]⟩, .string ⟨#[]⟩, .int .i64 0, .slice none 0 0, .slice none 0 0], .bool true, .bool true, .bool true, .bool true] (fun i => i == 4 || i == 7) (fun _ x u => IsNms u x CN) u 27 (fun _ x u u' hb h => h.below hb) rfl rfl HSZ.out (by kernel_rfl) (by kernel_rfl) ?step ?fin
          case step =>
            intro i o ho a X u hu hout hd hX
            match i, ho with
            | 0, ho =>
              obtain rfl := Option.some.inj ho
              clear hd ho hout hX
              refine wpOp_step rfl (fun K' hK' => ?_)
              go_simp
              refine (HA.out _).mono ?_
              rintro e w9 ⟨rfl, hb9⟩
              exact hK' _ _ ⟨fun _ => rfl, fun h => absurd h (by decide), hb9⟩
            | 1, ho =>
              obtain rfl := Option.some.inj ho
              have e0' : a.tmps[70]? = some (.bool true) := hd 0 rfl rfl
              clear hd ho hout hX
              refine wpOp_step rfl (fun K' hK' => ?_)
              go_simp
              exact hK' _ _ ⟨fun _ => rfl, fun h => absurd h (by decide), Below.refl _ _⟩
            | 2, ho =>
              obtain rfl := Option.some.inj ho
              have e1' : a.tmps[71]? = some (.bool true) := hd 1 rfl rfl
              have f2 : a.tmps[2]? = some (.pointer (some ⟨w.heap.size, 0, none⟩)) := (hout 2 (by decide)).trans HF2.out
              clear hd ho hout hX
              refine wpOp_step rfl (fun K' hK' => ?_)
              obtain ⟨⟨p0, p1⟩, ⟨z0, z1, z2, z3⟩, ⟨g0, g1, g2, g3, g4⟩, hBu⟩ := HXU.out _ hu
              go_simp
              exact hK' _ _ ⟨fun _ => rfl, fun h => absurd h (by decide), Below.refl _ _⟩
            | 3, ho =>
              obtain rfl := Option.some.inj ho
              have e1' : a.tmps[71]? = some (.bool true) := hd 1 rfl rfl
              have f1 : a.tmps[1]? = some (.string NB) := (hout 1 (by decide)).trans HF1.out
              clear hd ho hout hX
              refine wpOp_step rfl (fun K' hK' => ?_)
              go_simp
              exact hK' _ _ ⟨fun _ => rfl, fun h => absurd h (by decide), Below.refl _ _⟩
            | 4, ho =>
              obtain rfl := Option.some.inj ho
              have e1' : a.tmps[71]? = some (.bool true) := hd 1 rfl rfl
              have e2' : a.tmps[72]? = some (.agg #[.slice ta tn tcap, .slice ca m ccap]) := hd 2 rfl rfl
              have e3' : a.tmps[73]? = some (.string NB) := hd 3 rfl rfl
              clear hd ho hout hX
              refine wpOp_step rfl (fun K' hK' => ?_)
              go_simp
              refine (HCH.out _ (HXU.out _ hu).2.2.2).mono ?_
              rintro e w9 ⟨v9, rfl, hown, hb9⟩
              exact hK' _ _ ⟨fun h => absurd h (by decide), fun _ => ⟨v9, rfl, IsOwn.nms hown⟩, hb9⟩
            | 5, ho =>
              obtain rfl := Option.some.inj ho
              have e1' : a.tmps[71]? = some (.bool true) := hd 1 rfl rfl
              have f2 : a.tmps[2]? = some (.pointer (some ⟨w.heap.size, 0, none⟩)) := (hout 2 (by decide)).trans HF2.out
              clear hd ho hout hX
              refine wpOp_step rfl (fun K' hK' => ?_)
              obtain ⟨⟨p0, p1⟩, ⟨z0, z1, z2, z3⟩, ⟨g0, g1, g2, g3, g4⟩, hBu⟩ := HXU.out _ hu
              go_simp
              exact hK' _ _ ⟨fun _ => rfl, fun h => absurd h (by decide), Below.refl _ _⟩
            | 6, ho =>
              obtain rfl := Option.some.inj ho
              have e1' : a.tmps[71]? = some (.bool true) := hd 1 rfl rfl
              have f1 : a.tmps[1]? = some (.string NB) := (hout 1 (by decide)).trans HF1.out
              clear hd ho hout hX
              refine wpOp_step rfl (fun K' hK' => ?_)
              go_simp
              exact hK' _ _ ⟨fun _ => rfl, fun h => absurd h (by decide), Below.refl _ _⟩
            | 7, ho =>
              obtain rfl := Option.some.inj ho
              have e1' : a.tmps[71]? = some (.bool true) := hd 1 rfl rfl
              have e5' : a.tmps[75]? = some (.agg #[.slice ta tn tcap, .slice ca m ccap]) := hd 5 rfl rfl
              have e6' : a.tmps[76]? = some (.string NB) := hd 6 rfl rfl
              clear hd ho hout hX
              refine wpOp_step rfl (fun K' hK' => ?_)
              go_simp
              refine (HRC.out HK0.out _ (HXU.out _ hu).2.2.2).mono ?_
              rintro e w9 ⟨v9, rfl, hown, hb9⟩
              exact hK' _ _ ⟨fun h => absurd h (by decide), fun _ => ⟨v9, rfl, IsOwn.nms hown⟩, hb9⟩
            | 8, ho =>
              obtain rfl := Option.some.inj ho
              have e1' : a.tmps[71]? = some (.bool true) := hd 1 rfl rfl
              obtain ⟨hx4', hg4'⟩ := hX 4 rfl rfl
              have hx4 : a.tmps[74]? = some (X 4) := hx4'
              have hg4 : IsNms u (X 4) CN := hg4'
              clear hx4' hg4'
              generalize X 4 = x4v at *
              obtain ⟨hx7', hg7'⟩ := hX 7 rfl rfl
              have hx7 : a.tmps[77]? = some (X 7) := hx7'
              have hg7 : IsNms u (X 7) CN := hg7'
              clear hx7' hg7'
              generalize X 7 = x7v at *
              clear hd ho hout hX
              refine wpOp_step rfl (fun K' hK' => ?_)
              go_simp
              refine (HSAME.out _ _ _ hg4 hg7).mono ?_
              rintro e w9 ⟨rfl, hb9⟩
              exact hK' _ _ ⟨fun _ => rfl, fun h => absurd h (by decide), hb9⟩
            | 9, ho =>
              obtain rfl := Option.some.inj ho
              have e1' : a.tmps[71]? = some (.bool true) := hd 1 rfl rfl
              have e8' : a.tmps[78]? = some (.bool true) := hd 8 rfl rfl
              clear hd ho hout hX
              refine wpOp_step rfl (fun K' hK' => ?_)
              go_simp
              exact hK' _ _ ⟨fun _ => rfl, fun h => absurd h (by decide), Below.refl _ _⟩
            | 10, ho =>
              obtain rfl := Option.some.inj ho
              have e9' : a.tmps[79]? = some (.bool true) := hd 9 rfl rfl
              clear hd ho hout hX
              refine wpOp_step rfl (fun K' hK' => ?_)
              go_simp
              exact hK' _ _ ⟨fun _ => rfl, fun h => absurd h (by decide), Below.refl _ _⟩
            | 11, ho =>
              obtain rfl := Option.some.inj ho
              have e10' : a.tmps[80]? = some (.bool true) := hd 10 rfl rfl
              have f6 : a.tmps[6]? = some (.bool false) := (hout 6 (by decide)).trans HF6.out
              clear hd ho hout hX
              refine wpOp_step rfl (fun K' hK' => ?_)
              go_simp
              exact hK' _ _ ⟨fun _ => rfl, fun h => absurd h (by decide), Below.refl _ _⟩
            | 12, ho =>
              obtain rfl := Option.some.inj ho
              have e10' : a.tmps[80]? = some (.bool true) := hd 10 rfl rfl
              have e11' : a.tmps[81]? = some (.bool false) := hd 11 rfl rfl
              clear hd ho hout hX
              refine wpOp_step rfl (fun K' hK' => ?_)
              go_simp
              exact hK' _ _ ⟨fun _ => rfl, fun h => absurd h (by decide), Below.refl _ _⟩
            | 13, ho =>
              obtain rfl := Option.some.inj ho
              have e12' : a.tmps[82]? = some (.bool false) := hd 12 rfl rfl
              have f5 : a.tmps[5]? = some (.pointer (some ⟨w3.heap.size, 0, none⟩)) := (hout 5 (by decide)).trans HF5.out
              clear hd ho hout hX
              refine wpOp_step rfl (fun K' hK' => ?_)
              obtain ⟨⟨p0, p1⟩, ⟨z0, z1, z2, z3⟩, ⟨g0, g1, g2, g3, g4⟩, hBu⟩ := HXU.out _ hu
              go_simp
              exact hK' _ _ ⟨fun _ => rfl, fun h => absurd h (by decide), Below.refl _ _⟩
            | 14, ho =>
              obtain rfl := Option.some.inj ho
              have e12' : a.tmps[82]? = some (.bool false) := hd 12 rfl rfl
              clear hd ho hout hX
              refine wpOp_step rfl (fun K' hK' => ?_)
              go_simp
              exact hK' _ _ ⟨fun _ => rfl, fun h => absurd h (by decide), Below.refl _ _⟩
            | 15, ho =>
              obtain rfl := Option.some.inj ho
              have e12' : a.tmps[82]? = some (.bool false) := hd 12 rfl rfl
              have e13' : a.tmps[83]? = some (.agg #[.string ⟨#[]⟩, .int .i64 0, .bool false, .bool false]) := hd 13 rfl rfl
              have e14' : a.tmps[84]? = some (.agg #[.string ⟨#[]⟩, .int .i64 0, .bool false, .bool false]) := hd 14 rfl rfl
              clear hd ho hout hX
              refine wpOp_step rfl (fun K' hK' => ?_)
              go_simp
              exact hK' _ _ ⟨fun _ => rfl, fun h => absurd h (by decide), Below.refl _ _⟩
            | 16, ho =>
              obtain rfl := Option.some.inj ho
              have e10' : a.tmps[80]? = some (.bool true) := hd 10 rfl rfl
              have e12' : a.tmps[82]? = some (.bool false) := hd 12 rfl rfl
              have e15' : a.tmps[85]? = some (.bool true) := hd 15 rfl rfl
              clear hd ho hout hX
              refine wpOp_step rfl (fun K' hK' => ?_)
              go_simp
              exact hK' _ _ ⟨fun _ => rfl, fun h => absurd h (by decide), Below.refl _ _⟩
            | 17, ho =>
              obtain rfl := Option.some.inj ho
              have e10' : a.tmps[80]? = some (.bool true) := hd 10 rfl rfl
              have e16' : a.tmps[86]? = some (.bool true) := hd 16 rfl rfl
              clear hd ho hout hX
              refine wpOp_step rfl (fun K' hK' => ?_)
              go_simp
              exact hK' _ _ ⟨fun _ => rfl, fun h => absurd h (by decide), Below.refl _ _⟩
            | 18, ho =>
              obtain rfl := Option.some.inj ho
              have e17' : a.tmps[87]? = some (.bool true) := hd 17 rfl rfl
              clear hd ho hout hX
              refine wpOp_step rfl (fun K' hK' => ?_)
              go_simp
              exact hK' _ _ ⟨fun _ => rfl, fun h => absurd h (by decide), Below.refl _ _⟩
            | 19, ho =>
              obtain rfl := Option.some.inj ho
              have e18' : a.tmps[88]? = some (.bool true) := hd 18 rfl rfl
              have f8 : a.tmps[8]? = some (.bool false) := (hout 8 (by decide)).trans HF8.out
              clear hd ho hout hX
              refine wpOp_step rfl (fun K' hK' => ?_)
              go_simp
              exact hK' _ _ ⟨fun _ => rfl, fun h => absurd h (by decide), Below.refl _ _⟩
            | 20, ho =>
              obtain rfl := Option.some.inj ho
              have e18' : a.tmps[88]? = some (.bool true) := hd 18 rfl rfl
              have e19' : a.tmps[89]? = some (.bool false) := hd 19 rfl rfl
              clear hd ho hout hX
              refine wpOp_step rfl (fun K' hK' => ?_)
              go_simp
              exact hK' _ _ ⟨fun _ => rfl, fun h => absurd h (by decide), Below.refl _ _⟩
            | 21, ho =>
              obtain rfl := Option.some.inj ho
              have e20' : a.tmps[90]? = some (.bool false) := hd 20 rfl rfl
              have f7 : a.tmps[7]? = some (.pointer (some ⟨w4.heap.size, 0, none⟩)) := (hout 7 (by decide)).trans HF7.out
              clear hd ho hout hX
              refine wpOp_step rfl (fun K' hK' => ?_)
              obtain ⟨⟨p0, p1⟩, ⟨z0, z1, z2, z3⟩, ⟨g0, g1, g2, g3, g4⟩, hBu⟩ := HXU.out _ hu
              go_simp
              exact hK' _ _ ⟨fun _ => rfl, fun h => absurd h (by decide), Below.refl _ _⟩
            | 22, ho =>
              obtain rfl := Option.some.inj ho
              have e20' : a.tmps[90]? = some (.bool false) := hd 20 rfl rfl
              clear hd ho hout hX
              refine wpOp_step rfl (fun K' hK' => ?_)
              go_simp
              exact hK' _ _ ⟨fun _ => rfl, fun h => absurd h (by decide), Below.refl _ _⟩
            | 23, ho =>
              obtain rfl := Option.some.inj ho
              have e20' : a.tmps[90]? = some (.bool false) := hd 20 rfl rfl
              have e21' : a.tmps[91]? = some (.agg #[.string ⟨#[]⟩, .string ⟨#[]⟩, .int .i64 0, .slice a1 n1 c1, .slice a2 n2 c2]) := hd 21 rfl rfl
              have e22' : a.tmps[92]? = some (.agg #[.string ⟨#[]⟩, .string ⟨#[]⟩, .int .i64 0, .slice none 0 0, .slice none 0 0]) := hd 22 rfl rfl
              clear hd ho hout hX
              refine wpOp_step rfl (fun K' hK' => ?_)
              go_simp
              refine (HSCZ.out _ (HU6.out _ hu)).mono ?_
              rintro e w9 ⟨rfl, hb9⟩
              exact hK' _ _ ⟨fun _ => rfl, fun h => absurd h (by decide), hb9⟩
            | 24, ho =>
              obtain rfl := Option.some.inj ho
              have e18' : a.tmps[88]? = some (.bool true) := hd 18 rfl rfl
              have e20' : a.tmps[90]? = some (.bool false) := hd 20 rfl rfl
              have e23' : a.tmps[93]? = some (.bool true) := hd 23 rfl rfl
              clear hd ho hout hX
              refine wpOp_step rfl (fun K' hK' => ?_)
              go_simp
              exact hK' _ _ ⟨fun _ => rfl, fun h => absurd h (by decide), Below.refl _ _⟩
            | 25, ho =>
              obtain rfl := Option.some.inj ho
              have e18' : a.tmps[88]? = some (.bool true) := hd 18 rfl rfl
              have e24' : a.tmps[94]? = some (.bool true) := hd 24 rfl rfl
              clear hd ho hout hX
              refine wpOp_step rfl (fun K' hK' => ?_)
              go_simp
              exact hK' _ _ ⟨fun _ => rfl, fun h => absurd h (by decide), Below.refl _ _⟩
            | 26, ho =>
              obtain rfl := Option.some.inj ho
              have e25' : a.tmps[95]? = some (.bool true) := hd 25 rfl rfl
              clear hd ho hout hX
              refine wpOp_step rfl (fun K' hK' => ?_)
              go_simp
              exact hK' _ _ ⟨fun _ => rfl, fun h => absurd h (by decide), Below.refl _ _⟩
            | i + 27, ho => cases ho
          case fin =>
            intro v u hbu hv hg
            have hvv := setD_congr F.tmps (fun i => if i = 26 then 4 else 70 + i) 27 v (fun i => ((([.bool true, .bool true, .agg #[.slice ta tn tcap, .slice ca m ccap], .string NB, undef, .agg #[.slice ta tn tcap, .slice ca m ccap], .string NB, undef, .bool true, .bool true, .bool true, .bool false, .bool false, .agg #[.string ⟨#[]⟩, .int .i64 0, .bool false, .bool false], .agg #[.string ⟨#[]⟩, .int .i64 0, .bool false, .bool false], .bool true, .bool true, .bool true, .bool true, .bool false, .bool false, .agg #[.string ⟨#[]⟩, .string ⟨#[]⟩, .int .i64 0, .slice a1 n1 c1, .slice a2 n2 c2], .agg #[.string ⟨#[]⟩, .string ⟨#[]⟩, .int .i64 0, .slice none 0 0, .slice none 0 0], .bool true, .bool true, .bool true, .bool true] : List Value).set 4 (v 4)).set 7 (v 7)).getD i undef) (fun i hi => by
              rw [List.getD_eq_getElem?_getD]
              by_cases e4 : i = 4
              · subst e4; rfl
              by_cases e7 : i = 7
              · subst e7; rfl
              rw [List.getElem?_set_ne (Ne.symm e7), List.getElem?_set_ne (Ne.symm e4), hv i hi (by simp [e4, e7])]; rfl)
            rw [hvv, ← HF.out]
            clear hvv hv HF HSZ HF1 HF2 HF5 HF6 HF7 HF8
            simp only [setD, List.getD_cons_zero, List.getD_cons_succ, Nat.reduceAdd, List.setIfInBounds_toArray, List.set_cons_succ, List.set_cons_zero, if_true, if_false, reduceIte, Nat.reduceEqDiff]
            have hend := (HXU.out _ hbu).2.2.2
            clear hg hbu
            go_wp2_with fail
            all_goals (go_ret; exact ⟨rfl, hend⟩)

/-! The step from the walk to the row. -/
theorem own : ownKnob Try.prog.godebug = none := by kernel_rfl
theorem laidOut : laidOutB Try.prog = true := by kernel_rfl

set_option maxRecDepth 100000 in
theorem lifted (os : Os) (started : os.Started) (H : Type) (enc : TypeId × Value → H) (F : Stop.Interp) :
    ReturnsInHanded {} Try.checked os 4 .any ((Rows.OpenSpec.upto Rows.schemaFindsSpec).pre6 enc Try.prog Try.f4 Rows.schemaFindsUptoRow.domain false) (((Rows.OpenSpec.upto Rows.schemaFindsSpec).at F).post enc Try.prog Try.f4 false true false false) := by
  refine returnsInHanded_of_cond_sized (C := Try.checked) (s := Rows.OpenSpec.upto Rows.schemaFindsSpec) (k := Rows.uptoSmall) rfl own started (by kernel_rfl) Try.func4
    (OpenSpec.witness (enc := enc) (C := Try.checked) (s := Rows.OpenSpec.upto Rows.schemaFindsSpec) (k := Rows.uptoSmall) rfl false ⟨#[], #[.agg #[.slice none 0 0, .slice none 0 0], .string .empty], []⟩ 8 (by kernel_rfl) (by kernel_rfl) (by kernel_rfl)
      (x := ([.agg [.nil, .nil], .lit (.string [])], [], [])) (by kernel_rfl) rfl (by kernel_rfl)) ?_
  intro W base args ds gs before hval0 hW _ hk hsz0 _
  have hsz : (DataW.weightsEach Try.prog (Try.f4.params.toList ++ Rows.schemaFindsSpec.plain.varTypes Try.prog) (ds ++ gs)).all (· ≤ reachBytes) = true := hsz0
  have hval : ∀ (j : Nat) t v, Try.f4.params[j]? = some t → args[j]? = some v → Value.okWide Try.prog W .any base t v := hval0
  have hW' := hW
  obtain ⟨p, q, hA0, hV, rfl, _, _⟩ := hW
  have hA : DataW.TrodAll enc Try.prog W 0 (fun _ => true) true Try.f4.params.toList args.toList ds p := hA0
  rw [Try.params4] at hA hval hsz
  obtain ⟨v0, vs0, d0, ds0, p0, q0, hargs, rfl, rfl, h0, r0⟩ := trodAll_cons hA
  obtain ⟨v1, vs1, d1, ds1, p1, q1, rfl, rfl, rfl, h1, r1⟩ := trodAll_cons r0
  obtain ⟨rfl, rfl, rfl⟩ := trodAll_nil r1
  obtain rfl : args = #[v0, v1] := by cases args; simp_all
  obtain ⟨rfl, rfl⟩ := trodVars_none hV
  have k0 := h0
  have lt0 : ∀ x ∈ p0, x.block < W.heap.size := by obtain ⟨m, hm⟩ := k0; exact DataW.trod_lt m _ _ _ hm
  obtain ⟨tv0, cv0, s0, rfl, w0, z0⟩ := open_schS (j := 0) (hval 0 25 v0 rfl rfl) h0 rfl rfl hsz hk
  obtain ⟨a1, rfl, rfl, rfl, m1⟩ := open_string Try.underlying9 (hval 1 9 v1 rfl rfl) h1
  have w1 : a1.size ≤ 140737488351232 := by
    have h : a1.data.toList.length ≤ reachBytes := sized_string hsz (j := 1) (t := 9) rfl rfl
    simpa [reachBytes] using h
  have k1 : a1.size ≤ 1048576 := by
    have h := of_decide_eq_true hk
    simp only [Rows.uptoBulkAll, Rows.uptoBulk, List.cons_append, List.nil_append] at h
    have e : a1.data.toList.length = a1.size := by rw [Array.length_toList]; rfl
    omega
  clear hA0 hval0
  simp only [List.append_nil] at hW'
  refine (walk s0 tv0 cv0 a1 z0 w1 k1 W w0).mono fun e W' ⟨he, bel⟩ => ?_
  subst he
  exact ⟨_, rfl, _, _, _, [], _, [], hW', trodAll_mk1 (shut_bool Try.underlying4 _), (trodAll_cons_mk (Below.trod laidOut (by kernel_rfl) (of_decide_eq_true (by kernel_rfl)) k0 bel lt0) (trodAll_cons_mk (shut_string Try.underlying9 m1) trodAll_mk0)), rfl, bel.frame _, fun h => by cases h⟩

theorem proved : Rows.SchemaFindsUptoSaid :=
  OpenClaim.holds_of_cond 4 Try.f4 rfl rfl rfl rfl rfl rfl rfl ⟨rfl, rfl, rfl, rfl, rfl⟩ rfl rfl rfl rfl rfl (by kernel_rfl) Try.func4 (by kernel_rfl)
    (of_decide_eq_true (by kernel_rfl)) (by unfold Func.isWrapper; first | (rw [if_pos (by decide +kernel)]; kernel_rfl) | (rw [if_neg (by decide +kernel)]; exact ⟨rfl, rfl⟩))
    (fun os started H enc _ F => lifted os started H enc F)

#print axioms proved
end Go.Proofs.Ythkhicpkkmhfbaa.schemaFinds
