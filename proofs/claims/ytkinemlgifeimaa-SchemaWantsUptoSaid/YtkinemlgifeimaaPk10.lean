/-
  Some texts of one proof, one behind the other.
-/
import Derived.Test.YtkinemlgifeimaaPk9
set_option linter.unusedVariables false
set_option linter.unusedSimpArgs false

/-
  What is wrong with a class.
-/
namespace Go.Proofs.Ytkinemlgifeimaa
open Go.RowKit

set_option maxRecDepth 100000 in
set_option maxHeartbeats 1000000 in
theorem checkClass_any {tv cv : Value} {s : Mt.Sc} (i : Nat) (hi : i < s.classes.length) {w : World} (h : IsSc w tv cv s) :
    Calls Try.prog 31 #[.agg #[tv, cv], .int .i64 (i : Int)] w fun e w' => e = .returned (.int .i64 (Mt.chkCl s i)) ∧ Below w.heap.size w w' := by
  have hg := Mt.clI_get hi
  have hcm := h.cnm _ (List.getElem_mem hi)
  have HSU := Lib.hid (fun (u : World) (hb : Below w.heap.size w u) => checkSup_any i hi (h.below hb))
  have hlen := h.clen
  obtain ⟨b, off, cap, m, y, w1, hv, hcap, hbl, hw1, hs1, HA1, HP, HM⟩ := book_class i hi h
  have HCM := Lib.hid (fun (u : World) (hb : Below w.heap.size w u) => And.intro (containsLacks_any (HM.out u hb).1 (h.below hb) hcm.2.2.2.2.1 hcm.2.2.1) (containsLacks_any (HM.out u hb).2 (h.below hb) hcm.2.2.2.2.2 hcm.2.2.2.1))
  obtain ⟨am, cm, hm, -⟩ := (HM.out w (Below.refl _ _)).1
  obtain ⟨ay, cy, hy, -⟩ := (HM.out w (Below.refl _ _)).2
  obtain ⟨c, hc⟩ : ∃ c, s.classes[i] = c := ⟨_, rfl⟩
  rw [hc] at HP hg hcm HCM hm hy
  have HK := Lib.hid (fun (u : World) (hb : Below w.heap.size w u) => classAt_any c.name (by omega) (h.below hb))
  have HT := Lib.hid (fun u => type_any (Mt.str c.name) u)
  rw [Mt.str_data] at HT
  obtain ⟨R, hR⟩ : ∃ R, Mt.chkCl s i = R := ⟨_, rfl⟩
  have hR2 := hR
  unfold Mt.chkCl at hR
  rw [hg] at hR
  rw [hR2]
  obtain ⟨M, hMq⟩ : ∃ q, c.must.any (Mt.lacks s) = q := ⟨_, rfl⟩
  obtain ⟨Y, hYq⟩ : ∃ q, c.may.any (Mt.lacks s) = q := ⟨_, rfl⟩
  obtain ⟨z, hz⟩ : ∃ z, Mt.chkSup s i = z := ⟨_, rfl⟩
  obtain ⟨k, hk⟩ : ∃ k, Mt.clAt s c.name = k := ⟨_, rfl⟩
  obtain ⟨TL, hTL⟩ : ∃ z, Mt.typL c.name = z := ⟨_, rfl⟩
  rw [hMq, hYq, hz, hk, hTL] at hR
  rw [hMq, hYq] at HCM
  rw [hz] at HSU
  rw [hk] at HK
  rw [hTL] at HT
  have HR := Lib.hid hR
  generalize c.must.length = lm at hm
  generalize c.may.length = ly at hy
  subst hm hy
  subst hv
  obtain ⟨n, hn⟩ : ∃ n, s.classes.length = n := ⟨_, rfl⟩
  rw [hn] at hcap hlen HSU HCM HK HP hw1 ⊢
  have hlt : i < n := by omega
  have i0 : (0 : Int) ≤ (i : Int) := by omega
  have i1 : (i : Int) < (n : Int) := by omega
  obtain ⟨N, hN⟩ : ∃ N, Mt.str c.name = N := ⟨_, rfl⟩
  obtain ⟨U, hU⟩ : ∃ U, Mt.str c.sup = U := ⟨_, rfl⟩
  rw [hN, hU] at HP
  rw [hN] at HT HK
  generalize c.kind = kc at *
  obtain ⟨w2, hw2⟩ : ∃ w2, w1.alloc (.cells #[.string N, .string U, .int .i64 kc, .slice am lm cm, .slice ay ly cy] 31) = w2 := ⟨_, rfl⟩
  have hA2 : Below w1.heap.size w1 w2 := by rw [← hw2]; exact (Below.refl _ w1).alloc (Nat.le_refl _) _
  have HA2 := Lib.hid (HA1.out.trans (hA2.mono (by omega)))
  have hs2 : w2.heap.size = w.heap.size + 2 := by rw [← hw2]; simp [hs1]
  have hx2 : w2.heap[w1.heap.size]? = some (.cells #[.string N, .string U, .int .i64 kc, .slice am lm cm, .slice ay ly cy] 31) := by rw [← hw2]; exact heap_alloc_new w1 _
  rw [hs1] at hx2
  have HP2 : Hid (∀ u, Below w2.heap.size w2 u → (u.cell? ⟨w.heap.size, 0, none⟩ = some tv ∧ u.cell? ⟨w.heap.size, 1, none⟩ = some (.slice (some ⟨b, off, none⟩) n cap)) ∧ (u.cell? ⟨w.heap.size + 1, 0, none⟩ = some (.string N) ∧ u.cell? ⟨w.heap.size + 1, 2, none⟩ = some (.int .i64 kc) ∧ u.cell? ⟨w.heap.size + 1, 3, none⟩ = some (.slice am lm cm) ∧ u.cell? ⟨w.heap.size + 1, 4, none⟩ = some (.slice ay ly cy))) := Lib.hid (fun u hu => by
    have r2 := (hu.block (w.heap.size + 1) (by omega)).trans hx2
    obtain ⟨p0, p1, -, -, -, -, -⟩ := HP.out u ((hA2.mono (by omega)).trans (hu.mono (by omega)))
    obtain ⟨⟨z0, z1, z2, z3, z4⟩, -⟩ := box5_of r2
    exact ⟨⟨p0, p1⟩, z0, z2, z3, z4⟩)
  obtain ⟨p0, p1, x0, x1, x2, x3, x4⟩ := HP.out w1 (Below.refl _ _)
  clear h hi hg hc hcm hR hR2 hn hN hU hk hTL hz hMq hYq HM hx2 hA2 hbl
  go_enter Try.func31, Try.ntmps31
  go_upto_region 2 with fail
  clear p0 p1 x0 x1 x2 x3 x4
  obtain ⟨⟨p0, p1⟩, z0, z2, z3, z4⟩ := HP2.out w2 (Below.refl _ _)
  go_wp2_with fail
  refine (HT.out _).mono ?_
  rintro e w3 ⟨rfl, hb⟩
  have HB3 := Lib.hid (HA2.out.trans (hb.mono HA2.out.size))
  have HW3 := Lib.hid hb
  clear hb p0 p1 z0 z2 z3 z4 HT
  obtain ⟨⟨p0, p1⟩, z0, z2, z3, z4⟩ := HP2.out w3 HW3.out
  cases TL with
  | false =>
    have HE : Hid (R = 20) := Lib.hid (by rw [← HR.out, if_pos rfl])
    go_wp2_with fail
    all_goals (go_ret; exact ⟨Mt.ret_int HE.out.symm, HB3.out⟩)
  | true =>
    have HR2 := Lib.hid HR.out
    rw [if_neg (by decide)] at HR2
    clear HR
    go_wp2_with fail
    refine (HK.out _ HB3.out).mono ?_
    rintro e w4 ⟨rfl, hb⟩
    have HB4 := Lib.hid (HB3.out.trans (hb.mono HB3.out.size))
    have HW4 := Lib.hid (HW3.out.trans (hb.mono HW3.out.size))
    clear hb p0 p1 z0 z2 z3 z4 HK
    obtain ⟨⟨p0, p1⟩, z0, z2, z3, z4⟩ := HP2.out w4 HW4.out
    by_cases hc : k < (i : Int)
    · have HE : Hid (R = 21) := Lib.hid (by rw [← HR2.out, if_pos hc])
      have d1 : decide (k < (i : Int)) = true := decide_eq_true hc
      go_wp2_with fail
      all_goals (go_ret; exact ⟨Mt.ret_int HE.out.symm, HB4.out⟩)
    have d1 : decide (k < (i : Int)) = false := decide_eq_false hc
    by_cases hkk : kc ≠ 0 ∧ kc ≠ 1 ∧ kc ≠ 2
    · have HE : Hid (R = 23) := Lib.hid (by rw [← HR2.out, if_neg hc, if_pos hkk])
      have e0 : (kc != 0) = true := by simpa using hkk.1
      have e1 : (kc != 1) = true := by simpa using hkk.2.1
      have e2 : (kc != 2) = true := by simpa using hkk.2.2
      have f0 : (kc == 0) = false := beq_eq_false_iff_ne.2 hkk.1
      have f1 : (kc == 1) = false := beq_eq_false_iff_ne.2 hkk.2.1
      have f2 : (kc == 2) = false := beq_eq_false_iff_ne.2 hkk.2.2
      clear hc hkk HR2
      go_wp2_with fail
      all_goals (go_ret; exact ⟨Mt.ret_int HE.out.symm, HB4.out⟩)
    have HR3 : Hid ((if z ≠ 0 then z else if M || Y then 22 else 0) = R) := Lib.hid (by rw [← HR2.out, if_neg hc, if_neg hkk])
    have hk3 : kc = 0 ∨ kc = 1 ∨ kc = 2 := by omega
    clear hc hkk HR2
    have HQ := Lib.hid (fun (u : World) (hb : Below w4.heap.size w4 u) => HP2.out u (HW4.out.trans (hb.mono HW4.out.size)))
    by_cases hz : z = 0
    · subst hz
      have HR4 := Lib.hid HR3.out
      rw [if_neg (by decide)] at HR4
      clear HR3
      rcases hk3 with rfl | rfl | rfl
      all_goals
        go_wp2_with fail
        refine (HSU.out _ HB4.out).mono ?_
        rintro e w5 ⟨rfl, hb⟩
        have HB5 := Lib.hid (HB4.out.trans (hb.mono HB4.out.size))
        have HW5 := Lib.hid hb
        clear hb p0 p1 z0 z2 z3 z4
        obtain ⟨⟨p0, p1⟩, z0, z2, z3, z4⟩ := HQ.out w5 HW5.out
        go_wp2_with fail
        refine ((HCM.out _ HB5.out).1).mono ?_
        rintro e w6 ⟨rfl, hb⟩
        have HB6 := Lib.hid (HB5.out.trans (hb.mono HB5.out.size))
        have HW6 := Lib.hid (HW5.out.trans (hb.mono HW5.out.size))
        clear hb p0 p1 z0 z2 z3 z4
        obtain ⟨⟨p0, p1⟩, z0, z2, z3, z4⟩ := HQ.out w6 HW6.out
        cases M with
        | true =>
          have HE : Hid (R = 22) := Lib.hid HR4.out.symm
          go_wp2_with fail
          all_goals (go_ret; exact ⟨Mt.ret_int HE.out.symm, HB6.out⟩)
        | false =>
          go_wp2_with fail
          refine ((HCM.out _ HB6.out).2).mono ?_
          rintro e w7 ⟨rfl, hb⟩
          have HB7 := Lib.hid (HB6.out.trans (hb.mono HB6.out.size))
          clear hb p0 p1 z0 z2 z3 z4
          cases Y with
          | true =>
            have HE : Hid (R = 22) := Lib.hid HR4.out.symm
            go_wp2_with fail
            all_goals (go_ret; exact ⟨Mt.ret_int HE.out.symm, HB7.out⟩)
          | false =>
            have HE : Hid (R = 0) := Lib.hid HR4.out.symm
            go_wp2_with fail
            all_goals (go_ret; exact ⟨Mt.ret_int HE.out.symm, HB7.out⟩)
    · have HE : Hid (R = z) := Lib.hid (by rw [← HR3.out, if_pos hz])
      have g0 : (z == 0) = false := beq_eq_false_iff_ne.2 hz
      have g1 : (z != 0) = true := by simpa using hz
      clear HR3
      rcases hk3 with rfl | rfl | rfl
      all_goals
        go_wp2_with fail
        refine (HSU.out _ HB4.out).mono ?_
        rintro e w5 ⟨rfl, hb⟩
        have HB5 := Lib.hid (HB4.out.trans (hb.mono HB4.out.size))
        clear hb
        go_wp2_with fail
        all_goals (go_ret; exact ⟨Mt.ret_int HE.out.symm, HB5.out⟩)
end Go.Proofs.Ytkinemlgifeimaa

/-
  What is wrong with a schema.
-/
namespace Go.Proofs.Ytkinemlgifeimaa
open Go.RowKit

set_option maxRecDepth 100000 in
set_option maxHeartbeats 1000000 in
theorem checkRoot_any {tv cv : Value} {s : Mt.Sc} {w : World} (h : IsSc w tv cv s) :
    Calls Try.prog 32 #[.agg #[tv, cv]] w fun e w' => e = .returned (.int .i64 (Mt.chkRoot s)) ∧ Below w.heap.size w w' := by
  have HK := Lib.hid (fun (u : World) (hb : Below w.heap.size w u) => typeAt_any Mt.rootN (by decide) (h.below hb))
  have hrs : Mt.str Mt.rootN = ⟨#[111, 98, 106, 101, 99, 116, 67, 108, 97, 115, 115]⟩ := rfl
  rw [hrs] at HK
  have hr := Mt.tyAt_range s Mt.rootN
  have hlen := h.tlen
  obtain ⟨R, hR⟩ : ∃ R, Mt.chkRoot s = R := ⟨_, rfl⟩
  have hR2 := hR
  unfold Mt.chkRoot at hR
  obtain ⟨k, hk⟩ : ∃ k, Mt.tyAt s Mt.rootN = k := ⟨_, rfl⟩
  rw [hk] at hR HK hr
  rw [hR2]
  have HR := Lib.hid hR
  obtain ⟨w1, hw1⟩ : ∃ w1, w.alloc (.cells #[tv, cv] 59) = w1 := ⟨_, rfl⟩
  have HA1 : Hid (Below w.heap.size w w1) := Lib.hid (by rw [← hw1]; exact (Below.refl _ w).alloc (Nat.le_refl _) _)
  have hs1 : w1.heap.size = w.heap.size + 1 := by rw [← hw1]; simp
  have hx1 : w1.heap[w.heap.size]? = some (.cells #[tv, cv] 59) := by rw [← hw1]; exact heap_alloc_new w _
  have HP : Hid (∀ u, Below w1.heap.size w1 u → u.cell? ⟨w.heap.size, 0, none⟩ = some tv ∧ u.cell? ⟨w.heap.size, 1, none⟩ = some cv) := Lib.hid (fun u hu => by
    have r1 := (hu.block w.heap.size (by omega)).trans hx1
    exact ⟨by rw [cell_of_row _ _ _ _ _ _ r1]; rfl, by rw [cell_of_row _ _ _ _ _ _ r1]; rfl⟩)
  obtain ⟨p0, p1⟩ := HP.out w1 (Below.refl _ _)
  have HH := Lib.hid h
  have HWR := Lib.hid (fun b u => wrong_any b u)
  clear hR hR2 hk hrs hx1 h
  by_cases hneg : k < 0
  · have HE : Hid (R = 22) := Lib.hid (by rw [← HR.out, if_pos hneg])
    have d1 : decide (k < 0) = true := decide_eq_true hneg
    clear hneg hr
    go_enter Try.func32, Try.ntmps32
    go_wp2_with fail
    refine (HK.out _ HA1.out).mono ?_
    rintro e w2 ⟨rfl, hb⟩
    have HB2 := Lib.hid (HA1.out.trans (hb.mono HA1.out.size))
    clear hb
    go_wp2_with fail
    all_goals (go_ret; exact ⟨Mt.ret_int HE.out.symm, HB2.out⟩)
  · obtain ⟨j, rfl⟩ := Int.eq_ofNat_of_zero_le (show 0 ≤ k by omega)
    have hj : j < s.types.length := by omega
    have d1 : decide ((j : Int) < 0) = false := decide_eq_false hneg
    obtain ⟨a, cap, hv, hcap, hcell⟩ := HH.out.types
    obtain ⟨b, off, e0, hbl, h0, h1, h2, h3⟩ := hcell.out j hj
    subst e0
    have hg := Mt.tyI_get hj
    obtain ⟨t, ht⟩ : ∃ t, s.types[j] = t := ⟨_, rfl⟩
    rw [ht] at h1 h2 hg
    subst hv
    have HCL := Lib.hid (fun (u : World) (hb : Below w.heap.size w u) => And.intro ((hb.cell (p := ⟨b, off + j * 4 + 1, none⟩) hbl).trans h1) ((hb.cell (p := ⟨b, off + j * 4 + 2, none⟩) hbl).trans h2))
    have HE0 : Hid (R = Mt.wrong (decide (t.syn ≠ 3) || t.single)) := Lib.hid (by rw [← HR.out, if_neg hneg, hg])
    obtain ⟨n, hn⟩ : ∃ n, s.types.length = n := ⟨_, rfl⟩
    rw [hn] at hcap hlen HK HP hj p0 hw1 ⊢
    have j0 : (0 : Int) ≤ (j : Int) := by omega
    have j1 : (j : Int) < (n : Int) := by omega
    clear hcell h0 h1 h2 h3 ht hg hbl hneg hr HR HH hn
    generalize t.syn = sy at *
    generalize t.single = sg at *
    go_enter Try.func32, Try.ntmps32
    go_wp2_with fail
    refine (HK.out _ HA1.out).mono ?_
    rintro e w2 ⟨rfl, hb⟩
    have HB2 := Lib.hid (HA1.out.trans (hb.mono HA1.out.size))
    clear p0 p1
    obtain ⟨p0, p1⟩ := HP.out w2 hb
    obtain ⟨x1, x2⟩ := HCL.out w2 HB2.out
    clear hb
    by_cases h3 : sy = 3
    · subst h3
      have HE : Hid (R = Mt.wrong sg) := Lib.hid (by rw [HE0.out]; rfl)
      go_wp2_with fail
      refine (HWR.out _ _).mono ?_
      rintro e w4 ⟨rfl, rfl⟩
      go_wp2_with fail
      all_goals (go_ret; exact ⟨Mt.ret_int HE.out.symm, HB2.out⟩)
    · have g0 : (sy == 3) = false := beq_eq_false_iff_ne.2 h3
      have g1 : (sy != 3) = true := by simpa using h3
      have HE : Hid (R = Mt.wrong true) := Lib.hid (by rw [HE0.out, decide_eq_true h3]; rfl)
      go_wp2_with fail
      refine (HWR.out _ _).mono ?_
      rintro e w4 ⟨rfl, rfl⟩
      go_wp2_with fail
      all_goals (go_ret; exact ⟨Mt.ret_int HE.out.symm, HB2.out⟩)
theorem Mt.firstE_step (f : Nat → Int) (n i : Nat) (h : i < n) : Mt.firstE f (n - i) i = if f i ≠ 0 then f i else Mt.firstE f (n - (i + 1)) (i + 1) := by
  rw [show n - i = (n - (i + 1)) + 1 by omega]; rfl
theorem Mt.firstE_end (f : Nat → Int) (n : Nat) : Mt.firstE f (n - n) n = 0 := by rw [Nat.sub_self]; rfl
set_option maxRecDepth 100000 in
set_option maxHeartbeats 1000000 in
theorem check13_any {tv cv : Value} {s : Mt.Sc} {w : World} (h : IsSc w tv cv s) :
    Calls Try.prog 10 #[.agg #[tv, cv]] w fun e w' => e = .returned (.int .i64 (Mt.chk s)) ∧ Below w.heap.size w w' := by
  have HT := Lib.hid (fun (i : Nat) (hi : i < s.types.length) (u : World) (hb : Below w.heap.size w u) => checkType_any i hi (h.below hb))
  have HC := Lib.hid (fun (i : Nat) (hi : i < s.classes.length) (u : World) (hb : Below w.heap.size w u) => checkClass_any i hi (h.below hb))
  have HRT := Lib.hid (fun (u : World) (hb : Below w.heap.size w u) => checkRoot_any (h.below hb))
  have hlt := h.tlen
  have hlc := h.clen
  obtain ⟨R, hR⟩ : ∃ R, Mt.chk s = R := ⟨_, rfl⟩
  have hR2 := hR
  unfold Mt.chk at hR
  rw [hR2]
  obtain ⟨ta, tcap, hv1, -, -⟩ := h.types
  obtain ⟨ca, ccap, hv2, -, -⟩ := h.classes
  obtain ⟨n, hn⟩ : ∃ n, s.types.length = n := ⟨_, rfl⟩
  obtain ⟨m, hm⟩ : ∃ m, s.classes.length = m := ⟨_, rfl⟩
  rw [hn] at hv1 hlt HT hR
  rw [hm] at hv2 hlc HC hR
  subst hv1 hv2
  obtain ⟨w1, hw1⟩ : ∃ w1, w.alloc (.cells #[.slice ta n tcap, .slice ca m ccap] 25) = w1 := ⟨_, rfl⟩
  have hA1 : Below w.heap.size w w1 := by rw [← hw1]; exact (Below.refl _ w).alloc (Nat.le_refl _) _
  have hs1 : w1.heap.size = w.heap.size + 1 := by rw [← hw1]; simp
  have hx1 : w1.heap[w.heap.size]? = some (.cells #[.slice ta n tcap, .slice ca m ccap] 25) := by rw [← hw1]; exact heap_alloc_new w _
  obtain ⟨w2, hw2⟩ : ∃ w2, w1.alloc (.cells #[.slice ta n tcap, .slice ca m ccap] 59) = w2 := ⟨_, rfl⟩
  have hA2 : Below w1.heap.size w1 w2 := by rw [← hw2]; exact (Below.refl _ w1).alloc (Nat.le_refl _) _
  have HA1 := Lib.hid hA1
  have HA2 := Lib.hid (hA1.trans (hA2.mono (by omega)))
  have hs2 : w2.heap.size = w.heap.size + 2 := by rw [← hw2]; simp [hs1]
  have hx2 : w2.heap[w1.heap.size]? = some (.cells #[.slice ta n tcap, .slice ca m ccap] 59) := by rw [← hw2]; exact heap_alloc_new w1 _
  rw [hs1] at hx2
  have p0 : w1.cell? ⟨w.heap.size, 0, none⟩ = some (.slice ta n tcap) := by rw [cell_of_row _ _ _ _ _ _ hx1]; rfl
  have p1 : w1.cell? ⟨w.heap.size, 1, none⟩ = some (.slice ca m ccap) := by rw [cell_of_row _ _ _ _ _ _ hx1]; rfl
  have HP : Hid (∀ u, Below w2.heap.size w2 u → u.cell? ⟨w.heap.size + 1, 0, none⟩ = some (.slice ta n tcap) ∧ u.cell? ⟨w.heap.size + 1, 1, none⟩ = some (.slice ca m ccap)) := Lib.hid (fun u hu => by
    have r1 := (hu.block (w.heap.size + 1) (by omega)).trans hx2
    exact ⟨by rw [cell_of_row _ _ _ _ _ _ r1]; rfl, by rw [cell_of_row _ _ _ _ _ _ r1]; rfl⟩)
  clear h hn hm hx1 hx2 hA1 hA2 hR2
  by_cases hbig : 128 < n ∨ 128 < m
  · have HE : Hid (R = 9) := Lib.hid (by rw [← hR, if_pos hbig])
    clear hR
    by_cases hb1 : 128 < n
    · have d1 : decide ((128 : Int) < (n : Int)) = true := decide_eq_true (by omega)
      have d2 : decide (128 < n) = true := decide_eq_true hb1
      clear hbig hb1
      go_enter Try.func10, Try.ntmps10
      go_wp2_with fail
      all_goals (go_ret; exact ⟨Mt.ret_int HE.out.symm, HA1.out⟩)
    · have d1 : decide ((128 : Int) < (n : Int)) = false := decide_eq_false (by omega)
      have d2 : decide (128 < n) = false := decide_eq_false hb1
      have d3 : decide ((128 : Int) < (m : Int)) = true := decide_eq_true (by omega)
      have d4 : decide (128 < m) = true := decide_eq_true (by omega)
      clear hbig hb1
      go_enter Try.func10, Try.ntmps10
      go_wp2_with fail
      all_goals (go_ret; exact ⟨Mt.ret_int HE.out.symm, HA1.out⟩)
  rw [if_neg hbig] at hR
  have HR := Lib.hid hR
  have d1 : decide ((128 : Int) < (n : Int)) = false := decide_eq_false (by omega)
  have d2 : decide (128 < n) = false := decide_eq_false (by omega)
  have d3 : decide ((128 : Int) < (m : Int)) = false := decide_eq_false (by omega)
  have d4 : decide (128 < m) = false := decide_eq_false (by omega)
  obtain ⟨A, hA⟩ : ∃ A, Mt.firstE (Mt.chkTy s) n 0 = A := ⟨_, rfl⟩
  obtain ⟨C, hC⟩ : ∃ C, Mt.firstE (Mt.chkCl s) m 0 = C := ⟨_, rfl⟩
  rw [hA, hC] at HR
  have HF0 := Lib.hid (show Mt.firstE (Mt.chkTy s) (n - 0) 0 = A from hA)
  have HC0 := Lib.hid (show Mt.firstE (Mt.chkCl s) (m - 0) 0 = C from hC)
  clear hR hbig hA hC
  obtain ⟨q0, q1⟩ := HP.out w2 (Below.refl _ _)
  go_enter Try.func10, Try.ntmps10
  go_wp2_with fail
  go_loopw [24] (fun iv wr => ∃ i : Nat, i ≤ n ∧ iv = .int .i64 (i : Int) ∧ Hid (Mt.firstE (Mt.chkTy s) (n - i) i = A) ∧ Hid (Below w2.heap.size w2 wr)) (fun iv _ => n - (intOf iv).toNat)
  case atStart => exact ⟨0, Nat.zero_le _, rfl, HF0, Lib.hid (Below.refl _ _)⟩
  case round =>
    obtain ⟨i, hi, rfl, HI, HW⟩ := hrel
    clear p0 p1 q0 q1
    obtain ⟨q0, q1⟩ := HP.out wr HW.out
    have HB := Lib.hid (HA2.out.trans (HW.out.mono HA2.out.size))
    by_cases hlt2 : i < n
    · have e1 : decide ((i : Int) < (n : Int)) = true := decide_eq_true (by omega)
      have e2 : decide (i < n) = true := decide_eq_true hlt2
      have HK := Lib.hid (HT.out i hlt2 wr HB.out)
      have hst := Mt.firstE_step (Mt.chkTy s) n i hlt2
      obtain ⟨z, hz⟩ : ∃ z, Mt.chkTy s i = z := ⟨_, rfl⟩
      rw [hz] at HK hst
      have HS := Lib.hid (hst.symm.trans HI.out)
      clear hst hz HI
      go_wp2_with fail
      refine (HK.out).mono ?_
      rintro e w3 ⟨rfl, hb⟩
      have HB3 := Lib.hid (HB.out.trans (hb.mono HB.out.size))
      have HW3 := Lib.hid (HW.out.trans (hb.mono HW.out.size))
      clear hb
      by_cases hz0 : z = 0
      · subst hz0
        have HS2 : Hid (Mt.firstE (Mt.chkTy s) (n - (i + 1)) (i + 1) = A) := Lib.hid (by have := HS.out; rwa [if_neg (by decide)] at this)
        go_wp2_with fail
        go_roundw
        case rel => exact ⟨i + 1, by omega, by go_num, HS2, HW3⟩
        case measure => simp [intOf]; omega
      · have g0 : (z == 0) = false := beq_eq_false_iff_ne.2 hz0
        have g1 : (z != 0) = true := by simpa using hz0
        have HE : Hid (R = z) := Lib.hid (by
          have hAz : A = z := by have := HS.out; rw [if_pos hz0] at this; exact this.symm
          rw [← HR.out, hAz, if_pos hz0])
        clear hz0
        go_wp2_with fail
        all_goals (go_ret; exact ⟨Mt.ret_int HE.out.symm, HB3.out⟩)
    · obtain rfl : i = n := by omega
      have e1 : decide ((i : Int) < (i : Int)) = false := decide_eq_false (by omega)
      have e2 : decide (i < i) = false := decide_eq_false (by omega)
      have hA0 : A = 0 := by rw [← HI.out, Mt.firstE_end]
      have HR2 : Hid ((if C ≠ 0 then C else Mt.chkRoot s) = R) := Lib.hid (by rw [← HR.out, hA0, if_neg (show ¬ (0 : Int) ≠ 0 by decide)])
      clear hA0 HR HI
      go_wp2_with fail
      go_loopw [38] (fun iv wr => ∃ i : Nat, i ≤ m ∧ iv = .int .i64 (i : Int) ∧ Hid (Mt.firstE (Mt.chkCl s) (m - i) i = C) ∧ Hid (Below w2.heap.size w2 wr)) (fun iv _ => m - (intOf iv).toNat)
      case atStart => exact ⟨0, Nat.zero_le _, rfl, HC0, HW⟩
      case round =>
        obtain ⟨j, hj, rfl, HI, HW⟩ := hrel
        clear q0 q1
        obtain ⟨q0, q1⟩ := HP.out wr HW.out
        have HB := Lib.hid (HA2.out.trans (HW.out.mono HA2.out.size))
        by_cases hlt2 : j < m
        · have e1 : decide ((j : Int) < (m : Int)) = true := decide_eq_true (by omega)
          have e2 : decide (j < m) = true := decide_eq_true hlt2
          have HK := Lib.hid (HC.out j hlt2 wr HB.out)
          have hst := Mt.firstE_step (Mt.chkCl s) m j hlt2
          obtain ⟨z, hz⟩ : ∃ z, Mt.chkCl s j = z := ⟨_, rfl⟩
          rw [hz] at HK hst
          have HS := Lib.hid (hst.symm.trans HI.out)
          clear hst hz HI
          go_wp2_with fail
          refine (HK.out).mono ?_
          rintro e w3 ⟨rfl, hb⟩
          have HB3 := Lib.hid (HB.out.trans (hb.mono HB.out.size))
          have HW3 := Lib.hid (HW.out.trans (hb.mono HW.out.size))
          clear hb
          by_cases hz0 : z = 0
          · subst hz0
            have HS2 : Hid (Mt.firstE (Mt.chkCl s) (m - (j + 1)) (j + 1) = C) := Lib.hid (by have := HS.out; rwa [if_neg (by decide)] at this)
            go_wp2_with fail
            go_roundw
            case rel => exact ⟨j + 1, by omega, by go_num, HS2, HW3⟩
            case measure => simp [intOf]; omega
          · have g0 : (z == 0) = false := beq_eq_false_iff_ne.2 hz0
            have g1 : (z != 0) = true := by simpa using hz0
            have HE : Hid (R = z) := Lib.hid (by
              have hAz : C = z := by have := HS.out; rw [if_pos hz0] at this; exact this.symm
              rw [← HR2.out, hAz, if_pos hz0])
            clear hz0
            go_wp2_with fail
            all_goals (go_ret; exact ⟨Mt.ret_int HE.out.symm, HB3.out⟩)
        · obtain rfl : j = m := by omega
          have e1 : decide ((j : Int) < (j : Int)) = false := decide_eq_false (by omega)
          have e2 : decide (j < j) = false := decide_eq_false (by omega)
          have hC0 : C = 0 := by rw [← HI.out, Mt.firstE_end]
          have HE : Hid (Mt.chkRoot s = R) := Lib.hid (by rw [← HR2.out, hC0, if_neg (by decide)])
          have HK := Lib.hid (HRT.out wr HB.out)
          rw [HE.out] at HK
          clear hC0 HR2 HI
          go_wp2_with fail
          refine (HK.out).mono ?_
          rintro e w3 ⟨rfl, hb⟩
          have HB3 := Lib.hid (HB.out.trans (hb.mono HB.out.size))
          clear hb
          go_wp2_with fail
          all_goals (go_ret; exact ⟨rfl, HB3.out⟩)
end Go.Proofs.Ytkinemlgifeimaa

/-
  Places in a slice; the names of a chain.
-/
namespace Go.Proofs.Ytkinemlgifeimaa
open Go.RowKit

/-- Places in a slice. -/
def IsNats (w : World) (v : Value) (l : List Nat) : Prop := ∃ a cap, v = .slice a l.length cap ∧ l.length ≤ cap ∧ Hid (∀ j (hj : j < l.length), ∃ b off, a = some ⟨b, off, none⟩ ∧ b < w.heap.size ∧ w.cell? ⟨b, off + j, none⟩ = some (.int .i64 (l[j] : Nat)))
theorem IsNats.below {w u : World} {v : Value} {l : List Nat} (h : IsNats w v l) (hb : Below w.heap.size w u) : IsNats u v l := by
  obtain ⟨a, cap, e, hc, h⟩ := h
  refine ⟨a, cap, e, hc, Lib.hid fun j hj => ?_⟩
  obtain ⟨b, off, h0, h1, h2⟩ := h.out j hj
  exact ⟨b, off, h0, Nat.lt_of_lt_of_le h1 hb.size, (hb.cell (p := ⟨b, _, none⟩) h1).trans h2⟩
theorem IsOwn.nats {base : Nat} {w : World} {v : Value} {r : List Nat} (h : IsOwn 3 1 base w v r.length (nats r)) : IsNats w v r := by
  obtain ⟨g, _, hl, h⟩ := h
  rcases h with ⟨h0, rfl⟩ | ⟨off, cap, cur, rfl, h2, h3, h4, h5⟩
  · have : r = [] := List.eq_nil_of_length_eq_zero h0
    subst this
    exact ⟨none, 0, rfl, by simp, Lib.hid fun j hj => absurd hj (by simp)⟩
  · refine ⟨_, cap, rfl, h3, Lib.hid fun j hj => ⟨g, off, rfl, lt_of_block h2, ?_⟩⟩
    rw [cell_of_row w g _ cur 3 (0, 0) h2, h5 j (by simpa [Ytkinemlgifeimaa.nats] using hj)]
    simp [Ytkinemlgifeimaa.nats]
/-- The cells of names. -/
def nms (r : List (List UInt8)) : List Value := r.map fun n => .string (Mt.str n)
theorem Try.infoStr13 : (Try.prog.info? 9).map (fun i => (i.zero, i.size, i.bytes)) = some (some (.string ByteArray.empty), 1, 16) := by kernel_rfl
theorem nms_one (r : List (List UInt8)) : ∀ u ∈ nms r, u.oneCell' = true := by
  intro u hu; simp only [nms, List.mem_map] at hu; obtain ⟨x, _, rfl⟩ := hu; rfl
theorem IsOwn.nms {base : Nat} {w : World} {v : Value} {r : List (List UInt8)} (h : IsOwn 9 1 base w v r.length (nms r)) : IsNms w v r := by
  obtain ⟨g, _, hl, h⟩ := h
  rcases h with ⟨h0, rfl⟩ | ⟨off, cap, cur, rfl, h2, h3, h4, h5⟩
  · have : r = [] := List.eq_nil_of_length_eq_zero h0
    subst this
    exact ⟨none, 0, rfl, by simp, Lib.hid fun j hj => absurd hj (by simp)⟩
  · refine ⟨_, cap, rfl, h3, Lib.hid fun j hj => ⟨g, off, rfl, lt_of_block h2, ?_⟩⟩
    rw [cell_of_row w g _ cur 9 (0, 0) h2, h5 j (by simpa [Ytkinemlgifeimaa.nms] using hj)]
    simp [Ytkinemlgifeimaa.nms]
/-- The names of a chain. -/
def Mt.chainN (s : Mt.Sc) (n : List UInt8) : List (List UInt8) := (Mt.chain s n).map fun (i : Nat) => (Mt.clI s (i : Int)).name
theorem Mt.chain_lt (s : Mt.Sc) (n : List UInt8) : ∀ j ∈ Mt.chain s n, j < s.classes.length := Mt.chainF_lt s _ _ (Mt.clAt_range s n).2
theorem Mt.chainF_len (s : Mt.Sc) : ∀ (n : Nat) (i : Int), (Mt.chainF s n i).length ≤ n
  | 0, i => by simp [Mt.chainF]
  | n + 1, i => by
    unfold Mt.chainF
    split
    · simp
    · have := Mt.chainF_len s n (Mt.supAt s i.toNat)
      rw [List.length_cons]; omega
theorem Mt.chain_len (s : Mt.Sc) (n : List UInt8) : (Mt.chain s n).length ≤ s.classes.length := Mt.chainF_len s _ _
/-- The name of a class. -/
theorem name_at {tv cv : Value} {s : Mt.Sc} {w : World} (h : IsSc w tv cv s) {a : Option Addr} {n cap : Nat} (hv : cv = .slice a n cap) (j : Nat) (hj : j < s.classes.length) :
    ∃ b off, a = some ⟨b, off, none⟩ ∧ b < w.heap.size ∧ Hid (∀ u, Below w.heap.size w u → u.cell? ⟨b, off + j * 5, none⟩ = some (.string (Mt.str (Mt.clI s (j : Int)).name)) ∧ u.cell? ⟨b, off + j * 5 + 2, none⟩ = some (.int .i64 (Mt.clI s (j : Int)).kind)) := by
  obtain ⟨a', cap', hv', hcap, hcell⟩ := h.classes
  obtain ⟨b', off', m, y, e0, hbl, h0, h1, h2, h3, h4, h5, h6⟩ := hcell.out j hj
  rw [hv'] at hv
  cases hv
  rw [Mt.clI_get hj]
  exact ⟨b', off', e0, hbl, Lib.hid fun u hu => ⟨(hu.cell (p := ⟨b', _, none⟩) hbl).trans h0, (hu.cell (p := ⟨b', _, none⟩) hbl).trans h2⟩⟩
set_option maxRecDepth 100000 in
set_option maxHeartbeats 1000000 in
theorem chainN_any {tv cv : Value} {s : Mt.Sc} (n : List UInt8) (hn : n.length ≤ 140737488351232) {w : World} (h : IsSc w tv cv s) :
    Calls Try.prog 19 #[.agg #[tv, cv], .string (Mt.str n)] w fun e w' => ∃ v, e = .returned v ∧ IsOwn 9 1 w.heap.size w' v (Mt.chainN s n).length (nms (Mt.chainN s n)) ∧ Below w.heap.size w w' := by
  have HK := Lib.hid (fun (u : World) (hb : Below w.heap.size w u) => chain_any n hn (h.below hb))
  have hlen := h.clen
  obtain ⟨i0, hi, hz0, hz1, hz2⟩ := info_parts Try.infoStr13
  have HI := Lib.hid (And.intro hi (And.intro hz0 (And.intro hz1 hz2)))
  obtain ⟨ta, tcap, hv1, -, -⟩ := h.types
  obtain ⟨ca, ccap, hv2, -, -⟩ := h.classes
  have HNA := Lib.hid (fun (j : Nat) (hj : j < s.classes.length) => name_at h hv2 j hj)
  have HLT := Lib.hid (Mt.chain_lt s n)
  have hll := Mt.chain_len s n
  obtain ⟨L, hL⟩ : ∃ L, Mt.chain s n = L := ⟨_, rfl⟩
  have hN : Mt.chainN s n = L.map fun (i : Nat) => (Mt.clI s (i : Int)).name := by unfold Mt.chainN; rw [hL]
  rw [hN]
  rw [hL] at HK HLT hll
  subst hv1 hv2
  obtain ⟨w1, hw1⟩ : ∃ w1, w.alloc (.cells #[.slice ta s.types.length tcap, .slice ca s.classes.length ccap] 25) = w1 := ⟨_, rfl⟩
  have HA1 : Hid (Below w.heap.size w w1) := Lib.hid (by rw [← hw1]; exact (Below.refl _ w).alloc (Nat.le_refl _) _)
  have hs1 : w1.heap.size = w.heap.size + 1 := by rw [← hw1]; simp
  have hx1 : w1.heap[w.heap.size]? = some (.cells #[.slice ta s.types.length tcap, .slice ca s.classes.length ccap] 25) := by rw [← hw1]; exact heap_alloc_new w _
  have HP : Hid (∀ u, Below (w.heap.size + 1) w1 u → u.cell? ⟨w.heap.size, 0, none⟩ = some (.slice ta s.types.length tcap) ∧ u.cell? ⟨w.heap.size, 1, none⟩ = some (.slice ca s.classes.length ccap)) := Lib.hid (fun u hu => by
    have r1 := (hu.block w.heap.size (by omega)).trans hx1
    exact ⟨by rw [cell_of_row _ _ _ _ _ _ r1]; rfl, by rw [cell_of_row _ _ _ _ _ _ r1]; rfl⟩)
  obtain ⟨tn, htn⟩ : ∃ tn, s.types.length = tn := ⟨_, rfl⟩
  obtain ⟨cn, hcn⟩ : ∃ cn, s.classes.length = cn := ⟨_, rfl⟩
  rw [htn, hcn] at hw1 HP HK
  rw [hcn] at HNA HLT hll hlen
  rw [htn, hcn]
  obtain ⟨p0, p1⟩ := HP.out w1 (Below.refl _ _)
  generalize Mt.str n = N at *
  have HNIL : Hid (nms ((L.take 0).map fun (i : Nat) => (Mt.clI s (i : Int)).name) = []) := Lib.hid (by rw [List.take_zero]; rfl)
  clear h hn hi hz0 hz1 hz2 hx1 hN hL htn hcn
  go_enter Try.func19, Try.ntmps19
  go_wp2_with fail
  refine (HK.out _ HA1.out).mono ?_
  rintro e w2 ⟨v, rfl, hown, hb⟩
  obtain ⟨la, lcap, rfl, hlc, HL⟩ := IsOwn.nats hown
  have HB2 := Lib.hid (HA1.out.trans (hb.mono HA1.out.size))
  have HW2 := Lib.hid (show Below (w.heap.size + 1) w1 w2 from hb.mono (by omega))
  obtain ⟨ln, hln⟩ : ∃ ln, L.length = ln := ⟨_, rfl⟩
  rw [hln] at hlc hll ⊢
  have HLN := Lib.hid hln
  clear hb hown p0 p1 HK hln
  go_wp2_with fail
  have HML : Hid ((L.map fun (i : Nat) => (Mt.clI s (i : Int)).name).length = ln) := Lib.hid (by rw [List.length_map]; exact HLN.out)
  go_loopw [13, 5] (fun iv ov wr => ∃ (i : Nat) (a2 : Option Addr) (c2 : Nat), i ≤ ln ∧ iv = .int .i64 (i : Int) ∧ ov = .slice a2 i c2 ∧ Hid (IsOwn 9 1 w2.heap.size wr (.slice a2 i c2) i (nms ((L.take i).map fun (i : Nat) => (Mt.clI s (i : Int)).name))) ∧ Hid (Below w2.heap.size w2 wr)) (fun iv _ _ => ln - (intOf iv).toNat)
  case atStart =>
    refine ⟨0, none, 0, Nat.zero_le _, rfl, rfl, Lib.hid ?_, Lib.hid (Below.refl _ _)⟩
    rw [HNIL.out]
    exact IsOwn.nil _ _ _ _
  case round =>
    obtain ⟨i, a2, c2, hi, rfl, rfl, HO, HW⟩ := hrel
    have HB := Lib.hid (HB2.out.trans (HW.out.mono HB2.out.size))
    have HWa := Lib.hid (HW2.out.trans (HW.out.mono (show w.heap.size + 1 ≤ w2.heap.size by have := HW2.out.size; omega)))
    by_cases hlt : i < ln
    · have hil : i < L.length := by rw [HLN.out]; exact hlt
      obtain ⟨b, off, e0, hbl, hc⟩ := HL.out i hil
      have x0 := (HW.out.cell (p := ⟨b, off + i, none⟩) hbl).trans hc
      obtain ⟨j, hj⟩ : ∃ j, L[i] = j := ⟨_, rfl⟩
      have hjc := HLT.out _ (List.getElem_mem hil)
      rw [hj] at x0 hjc
      obtain ⟨b2, off2, e2, hb2, HN2⟩ := HNA.out j hjc
      obtain ⟨n0, -⟩ := HN2.out wr HB.out
      obtain ⟨NM, hNM⟩ : ∃ NM, Mt.str (Mt.clI s (j : Int)).name = NM := ⟨_, rfl⟩
      rw [hNM] at n0
      obtain ⟨p0, p1⟩ := HP.out wr HWa.out
      have HTK : Hid ((L.take (i + 1)).map (fun (i : Nat) => (Mt.clI s (i : Int)).name) = (L.take i).map (fun (i : Nat) => (Mt.clI s (i : Int)).name) ++ [(Mt.clI s (j : Int)).name]) := Lib.hid (by
        rw [List.take_succ_eq_append_getElem hil, List.map_append, hj]; rfl)
      obtain ⟨a3, c3, w5, hrun, hown, hb5⟩ := own_push (T := 29) (tx := 29) Try.underlying29 Try.underlying29 HI.out.1 HI.out.2.1 HI.out.2.2.1 HI.out.2.2.2 rfl HO.out HW.out.size (nms_one _) #[.string NM] rfl (by simp [Value.oneCell']) (by omega) (by omega)
      have HO5 : Hid (IsOwn 9 1 w2.heap.size w5 (.slice a3 (i + 1) c3) (i + 1) (nms ((L.take (i + 1)).map fun (i : Nat) => (Mt.clI s (i : Int)).name))) := Lib.hid (by
        rw [HTK.out]
        have e : nms ((L.take i).map (fun (i : Nat) => (Mt.clI s (i : Int)).name) ++ [(Mt.clI s (j : Int)).name]) = nms ((L.take i).map fun (i : Nat) => (Mt.clI s (i : Int)).name) ++ (#[.string NM] : Array Value).toList := by rw [← hNM]; simp [nms]
        rw [e]; exact hown)
      have HW5 := Lib.hid (HW.out.trans hb5)
      have d1 : decide ((i : Int) < (ln : Int)) = true := decide_eq_true (by omega)
      have d2 : decide (i < ln) = true := decide_eq_true hlt
      have i0 : (0 : Int) ≤ (i : Int) := by omega
      have j0 : (0 : Int) ≤ (j : Int) := by omega
      have j1 : (j : Int) < (cn : Int) := by omega
      subst e0 e2
      clear hbl hc hj hNM hown hb5 hil hb2
      go_wp2_with (refine wpList_append_run rfl _ _ 29 29 rfl _ _ rfl rfl hrun ?_)
      go_roundw
      case rel => exact ⟨i + 1, a3, c3, by omega, by go_num, by rfl, HO5, HW5⟩
      case measure => simp [intOf]; omega
    · obtain rfl : i = ln := by omega
      have d1 : decide ((i : Int) < (i : Int)) = false := decide_eq_false (by omega)
      have d2 : decide (i < i) = false := decide_eq_false (by omega)
      have HFIN : Hid (IsOwn 9 1 w.heap.size wr (.slice a2 i c2) (L.map fun (i : Nat) => (Mt.clI s (i : Int)).name).length (nms (L.map fun (i : Nat) => (Mt.clI s (i : Int)).name))) := Lib.hid (by
        rw [HML.out]
        have ht : L.take i = L := by rw [← HLN.out]; exact List.take_length
        have := HO.out
        rw [ht] at this
        exact this.mono HB2.out.size)
      go_wp2_with fail
      go_ret
      exact ⟨_, rfl, HFIN.out, HB.out⟩
end Go.Proofs.Ytkinemlgifeimaa
