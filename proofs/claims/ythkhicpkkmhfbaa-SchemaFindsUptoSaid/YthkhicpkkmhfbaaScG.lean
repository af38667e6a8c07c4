/-
  What is wrong with a class.
-/
import Derived.Test.YthkhicpkkmhfbaaScF
namespace Go.Proofs.Ythkhicpkkmhfbaa
open Go.RowKit

set_option maxRecDepth 100000 in
set_option maxHeartbeats 1000000 in
theorem checkClass_any {tv cv : Value} {s : Mt.Sc} (i : Nat) (hi : i < s.classes.length) {w : World} (h : IsSc w tv cv s) :
    Calls Try.prog 31 #[.agg #[tv, cv], .int .i64 (i : Int)] w fun e w' => e = .returned (.int .i64 (Mt.chkCl s i)) ∧ Below w.heap.size w w' := by
  have hg := Mt.clI_get hi
  have hcm := h.cnm _ (List.getElem_mem hi)
  have HSU := Lib.hid (fun (u : World) (hb : Below w.heap.size w u) => checkSup_any i hi (h.below hb))
  have hlen := h.clen
  obtain ⟨b, off, cap, m, y, w1, hv, hcap, hbl, hw1, hs1, HA1, HP, HM⟩ := book_class i hi h
  have HCM := Lib.hid (fun (u : World) (hb : Below w.heap.size w u) => And.intro (containsLacks_any (HM.out u hb).1 (h.below hb) hcm.2.2.2.2.1 hcm.2.2.1) (containsLacks_any (HM.out u hb).2 (h.below hb) hcm.2.2.2.2.2 hcm.2.2.2.1))
  obtain ⟨am, cm, hm, -⟩ := (HM.out w (Below.refl _ _)).1
  obtain ⟨ay, cy, hy, -⟩ := (HM.out w (Below.refl _ _)).2
  obtain ⟨c, hc⟩ : ∃ c, s.classes[i] = c := ⟨_, rfl⟩
  rw [hc] at HP hg hcm HCM hm hy
  have HK := Lib.hid (fun (u : World) (hb : Below w.heap.size w u) => classAt_any c.name (by omega) (h.below hb))
  have HT := Lib.hid (fun u => type_any (Mt.str c.name) u)
  rw [Mt.str_data] at HT
  obtain ⟨R, hR⟩ : ∃ R, Mt.chkCl s i = R := ⟨_, rfl⟩
  have hR2 := hR
  unfold Mt.chkCl at hR
  rw [hg] at hR
  rw [hR2]
  obtain ⟨M, hMq⟩ : ∃ q, c.must.any (Mt.lacks s) = q := ⟨_, rfl⟩
  obtain ⟨Y, hYq⟩ : ∃ q, c.may.any (Mt.lacks s) = q := ⟨_, rfl⟩
  obtain ⟨z, hz⟩ : ∃ z, Mt.chkSup s i = z := ⟨_, rfl⟩
  obtain ⟨k, hk⟩ : ∃ k, Mt.clAt s c.name = k := ⟨_, rfl⟩
  obtain ⟨TL, hTL⟩ : ∃ z, Mt.typL c.name = z := ⟨_, rfl⟩
  rw [hMq, hYq, hz, hk, hTL] at hR
  rw [hMq, hYq] at HCM
  rw [hz] at HSU
  rw [hk] at HK
  rw [hTL] at HT
  have HR := Lib.hid hR
  generalize c.must.length = lm at hm
  generalize c.may.length = ly at hy
  subst hm hy
  subst hv
  obtain ⟨n, hn⟩ : ∃ n, s.classes.length = n := ⟨_, rfl⟩
  rw [hn] at hcap hlen HSU HCM HK HP hw1 ⊢
  have hlt : i < n := by omega
  have i0 : (0 : Int) ≤ (i : Int) := by omega
  have i1 : (i : Int) < (n : Int) := by omega
  obtain ⟨N, hN⟩ : ∃ N, Mt.str c.name = N := ⟨_, rfl⟩
  obtain ⟨U, hU⟩ : ∃ U, Mt.str c.sup = U := ⟨_, rfl⟩
  rw [hN, hU] at HP
  rw [hN] at HT HK
  generalize c.kind = kc at *
  obtain ⟨w2, hw2⟩ : ∃ w2, w1.alloc (.cells #[.string N, .string U, .int .i64 kc, .slice am lm cm, .slice ay ly cy] 31) = w2 := ⟨_, rfl⟩
  have hA2 : Below w1.heap.size w1 w2 := by rw [← hw2]; exact (Below.refl _ w1).alloc (Nat.le_refl _) _
  have HA2 := Lib.hid (HA1.out.trans (hA2.mono (by omega)))
  have hs2 : w2.heap.size = w.heap.size + 2 := by rw [← hw2]; simp [hs1]
  have hx2 : w2.heap[w1.heap.size]? = some (.cells #[.string N, .string U, .int .i64 kc, .slice am lm cm, .slice ay ly cy] 31) := by rw [← hw2]; exact heap_alloc_new w1 _
  rw [hs1] at hx2
  have HP2 : Hid (∀ u, Below w2.heap.size w2 u → (u.cell? ⟨w.heap.size, 0, none⟩ = some tv ∧ u.cell? ⟨w.heap.size, 1, none⟩ = some (.slice (some ⟨b, off, none⟩) n cap)) ∧ (u.cell? ⟨w.heap.size + 1, 0, none⟩ = some (.string N) ∧ u.cell? ⟨w.heap.size + 1, 2, none⟩ = some (.int .i64 kc) ∧ u.cell? ⟨w.heap.size + 1, 3, none⟩ = some (.slice am lm cm) ∧ u.cell? ⟨w.heap.size + 1, 4, none⟩ = some (.slice ay ly cy))) := Lib.hid (fun u hu => by
    have r2 := (hu.block (w.heap.size + 1) (by omega)).trans hx2
    obtain ⟨p0, p1, -, -, -, -, -⟩ := HP.out u ((hA2.mono (by omega)).trans (hu.mono (by omega)))
    obtain ⟨⟨z0, z1, z2, z3, z4⟩, -⟩ := box5_of r2
    exact ⟨⟨p0, p1⟩, z0, z2, z3, z4⟩)
  obtain ⟨p0, p1, x0, x1, x2, x3, x4⟩ := HP.out w1 (Below.refl _ _)
  clear h hi hg hc hcm hR hR2 hn hN hU hk hTL hz hMq hYq HM hx2 hA2 hbl
  go_enter Try.func31, Try.ntmps31
  go_upto_region 2 with fail
  clear p0 p1 x0 x1 x2 x3 x4
  obtain ⟨⟨p0, p1⟩, z0, z2, z3, z4⟩ := HP2.out w2 (Below.refl _ _)
  go_wp2_with fail
  refine (HT.out _).mono ?_
  rintro e w3 ⟨rfl, hb⟩
  have HB3 := Lib.hid (HA2.out.trans (hb.mono HA2.out.size))
  have HW3 := Lib.hid hb
  clear hb p0 p1 z0 z2 z3 z4 HT
  obtain ⟨⟨p0, p1⟩, z0, z2, z3, z4⟩ := HP2.out w3 HW3.out
  cases TL with
  | false =>
    have HE : Hid (R = 20) := Lib.hid (by rw [← HR.out, if_pos rfl])
    go_wp2_with fail
    all_goals (go_ret; exact ⟨Mt.ret_int HE.out.symm, HB3.out⟩)
  | true =>
    have HR2 := Lib.hid HR.out
    rw [if_neg (by decide)] at HR2
    clear HR
    go_wp2_with fail
    refine (HK.out _ HB3.out).mono ?_
    rintro e w4 ⟨rfl, hb⟩
    have HB4 := Lib.hid (HB3.out.trans (hb.mono HB3.out.size))
    have HW4 := Lib.hid (HW3.out.trans (hb.mono HW3.out.size))
    clear hb p0 p1 z0 z2 z3 z4 HK
    obtain ⟨⟨p0, p1⟩, z0, z2, z3, z4⟩ := HP2.out w4 HW4.out
    by_cases hc : k < (i : Int)
    · have HE : Hid (R = 21) := Lib.hid (by rw [← HR2.out, if_pos hc])
      have d1 : decide (k < (i : Int)) = true := decide_eq_true hc
      go_wp2_with fail
      all_goals (go_ret; exact ⟨Mt.ret_int HE.out.symm, HB4.out⟩)
    have d1 : decide (k < (i : Int)) = false := decide_eq_false hc
    by_cases hkk : kc ≠ 0 ∧ kc ≠ 1 ∧ kc ≠ 2
    · have HE : Hid (R = 23) := Lib.hid (by rw [← HR2.out, if_neg hc, if_pos hkk])
      have e0 : (kc != 0) = true := by simpa using hkk.1
      have e1 : (kc != 1) = true := by simpa using hkk.2.1
      have e2 : (kc != 2) = true := by simpa using hkk.2.2
      have f0 : (kc == 0) = false := beq_eq_false_iff_ne.2 hkk.1
      have f1 : (kc == 1) = false := beq_eq_false_iff_ne.2 hkk.2.1
      have f2 : (kc == 2) = false := beq_eq_false_iff_ne.2 hkk.2.2
      clear hc hkk HR2
      go_wp2_with fail
      all_goals (go_ret; exact ⟨Mt.ret_int HE.out.symm, HB4.out⟩)
    have HR3 : Hid ((if z ≠ 0 then z else if M || Y then 22 else 0) = R) := Lib.hid (by rw [← HR2.out, if_neg hc, if_neg hkk])
    have hk3 : kc = 0 ∨ kc = 1 ∨ kc = 2 := by omega
    clear hc hkk HR2
    have HQ := Lib.hid (fun (u : World) (hb : Below w4.heap.size w4 u) => HP2.out u (HW4.out.trans (hb.mono HW4.out.size)))
    by_cases hz : z = 0
    · subst hz
      have HR4 := Lib.hid HR3.out
      rw [if_neg (by decide)] at HR4
      clear HR3
      rcases hk3 with rfl | rfl | rfl
      all_goals
        go_wp2_with fail
        refine (HSU.out _ HB4.out).mono ?_
        rintro e w5 ⟨rfl, hb⟩
        have HB5 := Lib.hid (HB4.out.trans (hb.mono HB4.out.size))
        have HW5 := Lib.hid hb
        clear hb p0 p1 z0 z2 z3 z4
        obtain ⟨⟨p0, p1⟩, z0, z2, z3, z4⟩ := HQ.out w5 HW5.out
        go_wp2_with fail
        refine ((HCM.out _ HB5.out).1).mono ?_
        rintro e w6 ⟨rfl, hb⟩
        have HB6 := Lib.hid (HB5.out.trans (hb.mono HB5.out.size))
        have HW6 := Lib.hid (HW5.out.trans (hb.mono HW5.out.size))
        clear hb p0 p1 z0 z2 z3 z4
        obtain ⟨⟨p0, p1⟩, z0, z2, z3, z4⟩ := HQ.out w6 HW6.out
        cases M with
        | true =>
          have HE : Hid (R = 22) := Lib.hid HR4.out.symm
          go_wp2_with fail
          all_goals (go_ret; exact ⟨Mt.ret_int HE.out.symm, HB6.out⟩)
        | false =>
          go_wp2_with fail
          refine ((HCM.out _ HB6.out).2).mono ?_
          rintro e w7 ⟨rfl, hb⟩
          have HB7 := Lib.hid (HB6.out.trans (hb.mono HB6.out.size))
          clear hb p0 p1 z0 z2 z3 z4
          cases Y with
          | true =>
            have HE : Hid (R = 22) := Lib.hid HR4.out.symm
            go_wp2_with fail
            all_goals (go_ret; exact ⟨Mt.ret_int HE.out.symm, HB7.out⟩)
          | false =>
            have HE : Hid (R = 0) := Lib.hid HR4.out.symm
            go_wp2_with fail
            all_goals (go_ret; exact ⟨Mt.ret_int HE.out.symm, HB7.out⟩)
    · have HE : Hid (R = z) := Lib.hid (by rw [← HR3.out, if_pos hz])
      have g0 : (z == 0) = false := beq_eq_false_iff_ne.2 hz
      have g1 : (z != 0) = true := by simpa using hz
      clear HR3
      rcases hk3 with rfl | rfl | rfl
      all_goals
        go_wp2_with fail
        refine (HSU.out _ HB4.out).mono ?_
        rintro e w5 ⟨rfl, hb⟩
        have HB5 := Lib.hid (HB4.out.trans (hb.mono HB4.out.size))
        clear hb
        go_wp2_with fail
        all_goals (go_ret; exact ⟨Mt.ret_int HE.out.symm, HB5.out⟩)
end Go.Proofs.Ythkhicpkkmhfbaa
