/-
  What is wrong with a schema.
-/
import Derived.Test.YthkhicpkkmhfbaaScG
namespace Go.Proofs.Ythkhicpkkmhfbaa
open Go.RowKit

set_option maxRecDepth 100000 in
set_option maxHeartbeats 1000000 in
theorem checkRoot_any {tv cv : Value} {s : Mt.Sc} {w : World} (h : IsSc w tv cv s) :
    Calls Try.prog 32 #[.agg #[tv, cv]] w fun e w' => e = .returned (.int .i64 (Mt.chkRoot s)) ∧ Below w.heap.size w w' := by
  have HK := Lib.hid (fun (u : World) (hb : Below w.heap.size w u) => typeAt_any Mt.rootN (by decide) (h.below hb))
  have hrs : Mt.str Mt.rootN = ⟨#[111, 98, 106, 101, 99, 116, 67, 108, 97, 115, 115]⟩ := rfl
  rw [hrs] at HK
  have hr := Mt.tyAt_range s Mt.rootN
  have hlen := h.tlen
  obtain ⟨R, hR⟩ : ∃ R, Mt.chkRoot s = R := ⟨_, rfl⟩
  have hR2 := hR
  unfold Mt.chkRoot at hR
  obtain ⟨k, hk⟩ : ∃ k, Mt.tyAt s Mt.rootN = k := ⟨_, rfl⟩
  rw [hk] at hR HK hr
  rw [hR2]
  have HR := Lib.hid hR
  obtain ⟨w1, hw1⟩ : ∃ w1, w.alloc (.cells #[tv, cv] 59) = w1 := ⟨_, rfl⟩
  have HA1 : Hid (Below w.heap.size w w1) := Lib.hid (by rw [← hw1]; exact (Below.refl _ w).alloc (Nat.le_refl _) _)
  have hs1 : w1.heap.size = w.heap.size + 1 := by rw [← hw1]; simp
  have hx1 : w1.heap[w.heap.size]? = some (.cells #[tv, cv] 59) := by rw [← hw1]; exact heap_alloc_new w _
  have HP : Hid (∀ u, Below w1.heap.size w1 u → u.cell? ⟨w.heap.size, 0, none⟩ = some tv ∧ u.cell? ⟨w.heap.size, 1, none⟩ = some cv) := Lib.hid (fun u hu => by
    have r1 := (hu.block w.heap.size (by omega)).trans hx1
    exact ⟨by rw [cell_of_row _ _ _ _ _ _ r1]; rfl, by rw [cell_of_row _ _ _ _ _ _ r1]; rfl⟩)
  obtain ⟨p0, p1⟩ := HP.out w1 (Below.refl _ _)
  have HH := Lib.hid h
  have HWR := Lib.hid (fun b u => wrong_any b u)
  clear hR hR2 hk hrs hx1 h
  by_cases hneg : k < 0
  · have HE : Hid (R = 22) := Lib.hid (by rw [← HR.out, if_pos hneg])
    have d1 : decide (k < 0) = true := decide_eq_true hneg
    clear hneg hr
    go_enter Try.func32, Try.ntmps32
    go_wp2_with fail
    refine (HK.out _ HA1.out).mono ?_
    rintro e w2 ⟨rfl, hb⟩
    have HB2 := Lib.hid (HA1.out.trans (hb.mono HA1.out.size))
    clear hb
    go_wp2_with fail
    all_goals (go_ret; exact ⟨Mt.ret_int HE.out.symm, HB2.out⟩)
  · obtain ⟨j, rfl⟩ := Int.eq_ofNat_of_zero_le (show 0 ≤ k by omega)
    have hj : j < s.types.length := by omega
    have d1 : decide ((j : Int) < 0) = false := decide_eq_false hneg
    obtain ⟨a, cap, hv, hcap, hcell⟩ := HH.out.types
    obtain ⟨b, off, e0, hbl, h0, h1, h2, h3⟩ := hcell.out j hj
    subst e0
    have hg := Mt.tyI_get hj
    obtain ⟨t, ht⟩ : ∃ t, s.types[j] = t := ⟨_, rfl⟩
    rw [ht] at h1 h2 hg
    subst hv
    have HCL := Lib.hid (fun (u : World) (hb : Below w.heap.size w u) => And.intro ((hb.cell (p := ⟨b, off + j * 4 + 1, none⟩) hbl).trans h1) ((hb.cell (p := ⟨b, off + j * 4 + 2, none⟩) hbl).trans h2))
    have HE0 : Hid (R = Mt.wrong (decide (t.syn ≠ 3) || t.single)) := Lib.hid (by rw [← HR.out, if_neg hneg, hg])
    obtain ⟨n, hn⟩ : ∃ n, s.types.length = n := ⟨_, rfl⟩
    rw [hn] at hcap hlen HK HP hj p0 hw1 ⊢
    have j0 : (0 : Int) ≤ (j : Int) := by omega
    have j1 : (j : Int) < (n : Int) := by omega
    clear hcell h0 h1 h2 h3 ht hg hbl hneg hr HR HH hn
    generalize t.syn = sy at *
    generalize t.single = sg at *
    go_enter Try.func32, Try.ntmps32
    go_wp2_with fail
    refine (HK.out _ HA1.out).mono ?_
    rintro e w2 ⟨rfl, hb⟩
    have HB2 := Lib.hid (HA1.out.trans (hb.mono HA1.out.size))
    clear p0 p1
    obtain ⟨p0, p1⟩ := HP.out w2 hb
    obtain ⟨x1, x2⟩ := HCL.out w2 HB2.out
    clear hb
    by_cases h3 : sy = 3
    · subst h3
      have HE : Hid (R = Mt.wrong sg) := Lib.hid (by rw [HE0.out]; rfl)
      go_wp2_with fail
      refine (HWR.out _ _).mono ?_
      rintro e w4 ⟨rfl, rfl⟩
      go_wp2_with fail
      all_goals (go_ret; exact ⟨Mt.ret_int HE.out.symm, HB2.out⟩)
    · have g0 : (sy == 3) = false := beq_eq_false_iff_ne.2 h3
      have g1 : (sy != 3) = true := by simpa using h3
      have HE : Hid (R = Mt.wrong true) := Lib.hid (by rw [HE0.out, decide_eq_true h3]; rfl)
      go_wp2_with fail
      refine (HWR.out _ _).mono ?_
      rintro e w4 ⟨rfl, rfl⟩
      go_wp2_with fail
      all_goals (go_ret; exact ⟨Mt.ret_int HE.out.symm, HB2.out⟩)
theorem Mt.firstE_step (f : Nat → Int) (n i : Nat) (h : i < n) : Mt.firstE f (n - i) i = if f i ≠ 0 then f i else Mt.firstE f (n - (i + 1)) (i + 1) := by
  rw [show n - i = (n - (i + 1)) + 1 by omega]; rfl
theorem Mt.firstE_end (f : Nat → Int) (n : Nat) : Mt.firstE f (n - n) n = 0 := by rw [Nat.sub_self]; rfl
set_option maxRecDepth 100000 in
set_option maxHeartbeats 1000000 in
theorem check13_any {tv cv : Value} {s : Mt.Sc} {w : World} (h : IsSc w tv cv s) :
    Calls Try.prog 10 #[.agg #[tv, cv]] w fun e w' => e = .returned (.int .i64 (Mt.chk s)) ∧ Below w.heap.size w w' := by
  have HT := Lib.hid (fun (i : Nat) (hi : i < s.types.length) (u : World) (hb : Below w.heap.size w u) => checkType_any i hi (h.below hb))
  have HC := Lib.hid (fun (i : Nat) (hi : i < s.classes.length) (u : World) (hb : Below w.heap.size w u) => checkClass_any i hi (h.below hb))
  have HRT := Lib.hid (fun (u : World) (hb : Below w.heap.size w u) => checkRoot_any (h.below hb))
  have hlt := h.tlen
  have hlc := h.clen
  obtain ⟨R, hR⟩ : ∃ R, Mt.chk s = R := ⟨_, rfl⟩
  have hR2 := hR
  unfold Mt.chk at hR
  rw [hR2]
  obtain ⟨ta, tcap, hv1, -, -⟩ := h.types
  obtain ⟨ca, ccap, hv2, -, -⟩ := h.classes
  obtain ⟨n, hn⟩ : ∃ n, s.types.length = n := ⟨_, rfl⟩
  obtain ⟨m, hm⟩ : ∃ m, s.classes.length = m := ⟨_, rfl⟩
  rw [hn] at hv1 hlt HT hR
  rw [hm] at hv2 hlc HC hR
  subst hv1 hv2
  obtain ⟨w1, hw1⟩ : ∃ w1, w.alloc (.cells #[.slice ta n tcap, .slice ca m ccap] 25) = w1 := ⟨_, rfl⟩
  have hA1 : Below w.heap.size w w1 := by rw [← hw1]; exact (Below.refl _ w).alloc (Nat.le_refl _) _
  have hs1 : w1.heap.size = w.heap.size + 1 := by rw [← hw1]; simp
  have hx1 : w1.heap[w.heap.size]? = some (.cells #[.slice ta n tcap, .slice ca m ccap] 25) := by rw [← hw1]; exact heap_alloc_new w _
  obtain ⟨w2, hw2⟩ : ∃ w2, w1.alloc (.cells #[.slice ta n tcap, .slice ca m ccap] 59) = w2 := ⟨_, rfl⟩
  have hA2 : Below w1.heap.size w1 w2 := by rw [← hw2]; exact (Below.refl _ w1).alloc (Nat.le_refl _) _
  have HA1 := Lib.hid hA1
  have HA2 := Lib.hid (hA1.trans (hA2.mono (by omega)))
  have hs2 : w2.heap.size = w.heap.size + 2 := by rw [← hw2]; simp [hs1]
  have hx2 : w2.heap[w1.heap.size]? = some (.cells #[.slice ta n tcap, .slice ca m ccap] 59) := by rw [← hw2]; exact heap_alloc_new w1 _
  rw [hs1] at hx2
  have p0 : w1.cell? ⟨w.heap.size, 0, none⟩ = some (.slice ta n tcap) := by rw [cell_of_row _ _ _ _ _ _ hx1]; rfl
  have p1 : w1.cell? ⟨w.heap.size, 1, none⟩ = some (.slice ca m ccap) := by rw [cell_of_row _ _ _ _ _ _ hx1]; rfl
  have HP : Hid (∀ u, Below w2.heap.size w2 u → u.cell? ⟨w.heap.size + 1, 0, none⟩ = some (.slice ta n tcap) ∧ u.cell? ⟨w.heap.size + 1, 1, none⟩ = some (.slice ca m ccap)) := Lib.hid (fun u hu => by
    have r1 := (hu.block (w.heap.size + 1) (by omega)).trans hx2
    exact ⟨by rw [cell_of_row _ _ _ _ _ _ r1]; rfl, by rw [cell_of_row _ _ _ _ _ _ r1]; rfl⟩)
  clear h hn hm hx1 hx2 hA1 hA2 hR2
  by_cases hbig : 128 < n ∨ 128 < m
  · have HE : Hid (R = 9) := Lib.hid (by rw [← hR, if_pos hbig])
    clear hR
    by_cases hb1 : 128 < n
    · have d1 : decide ((128 : Int) < (n : Int)) = true := decide_eq_true (by omega)
      have d2 : decide (128 < n) = true := decide_eq_true hb1
      clear hbig hb1
      go_enter Try.func10, Try.ntmps10
      go_wp2_with fail
      all_goals (go_ret; exact ⟨Mt.ret_int HE.out.symm, HA1.out⟩)
    · have d1 : decide ((128 : Int) < (n : Int)) = false := decide_eq_false (by omega)
      have d2 : decide (128 < n) = false := decide_eq_false hb1
      have d3 : decide ((128 : Int) < (m : Int)) = true := decide_eq_true (by omega)
      have d4 : decide (128 < m) = true := decide_eq_true (by omega)
      clear hbig hb1
      go_enter Try.func10, Try.ntmps10
      go_wp2_with fail
      all_goals (go_ret; exact ⟨Mt.ret_int HE.out.symm, HA1.out⟩)
  rw [if_neg hbig] at hR
  have HR := Lib.hid hR
  have d1 : decide ((128 : Int) < (n : Int)) = false := decide_eq_false (by omega)
  have d2 : decide (128 < n) = false := decide_eq_false (by omega)
  have d3 : decide ((128 : Int) < (m : Int)) = false := decide_eq_false (by omega)
  have d4 : decide (128 < m) = false := decide_eq_false (by omega)
  obtain ⟨A, hA⟩ : ∃ A, Mt.firstE (Mt.chkTy s) n 0 = A := ⟨_, rfl⟩
  obtain ⟨C, hC⟩ : ∃ C, Mt.firstE (Mt.chkCl s) m 0 = C := ⟨_, rfl⟩
  rw [hA, hC] at HR
  have HF0 := Lib.hid (show Mt.firstE (Mt.chkTy s) (n - 0) 0 = A from hA)
  have HC0 := Lib.hid (show Mt.firstE (Mt.chkCl s) (m - 0) 0 = C from hC)
  clear hR hbig hA hC
  obtain ⟨q0, q1⟩ := HP.out w2 (Below.refl _ _)
  go_enter Try.func10, Try.ntmps10
  go_wp2_with fail
  go_loopw [24] (fun iv wr => ∃ i : Nat, i ≤ n ∧ iv = .int .i64 (i : Int) ∧ Hid (Mt.firstE (Mt.chkTy s) (n - i) i = A) ∧ Hid (Below w2.heap.size w2 wr)) (fun iv _ => n - (intOf iv).toNat)
  case atStart => exact ⟨0, Nat.zero_le _, rfl, HF0, Lib.hid (Below.refl _ _)⟩
  case round =>
    obtain ⟨i, hi, rfl, HI, HW⟩ := hrel
    clear p0 p1 q0 q1
    obtain ⟨q0, q1⟩ := HP.out wr HW.out
    have HB := Lib.hid (HA2.out.trans (HW.out.mono HA2.out.size))
    by_cases hlt2 : i < n
    · have e1 : decide ((i : Int) < (n : Int)) = true := decide_eq_true (by omega)
      have e2 : decide (i < n) = true := decide_eq_true hlt2
      have HK := Lib.hid (HT.out i hlt2 wr HB.out)
      have hst := Mt.firstE_step (Mt.chkTy s) n i hlt2
      obtain ⟨z, hz⟩ : ∃ z, Mt.chkTy s i = z := ⟨_, rfl⟩
      rw [hz] at HK hst
      have HS := Lib.hid (hst.symm.trans HI.out)
      clear hst hz HI
      go_wp2_with fail
      refine (HK.out).mono ?_
      rintro e w3 ⟨rfl, hb⟩
      have HB3 := Lib.hid (HB.out.trans (hb.mono HB.out.size))
      have HW3 := Lib.hid (HW.out.trans (hb.mono HW.out.size))
      clear hb
      by_cases hz0 : z = 0
      · subst hz0
        have HS2 : Hid (Mt.firstE (Mt.chkTy s) (n - (i + 1)) (i + 1) = A) := Lib.hid (by have := HS.out; rwa [if_neg (by decide)] at this)
        go_wp2_with fail
        go_roundw
        case rel => exact ⟨i + 1, by omega, by go_num, HS2, HW3⟩
        case measure => simp [intOf]; omega
      · have g0 : (z == 0) = false := beq_eq_false_iff_ne.2 hz0
        have g1 : (z != 0) = true := by simpa using hz0
        have HE : Hid (R = z) := Lib.hid (by
          have hAz : A = z := by have := HS.out; rw [if_pos hz0] at this; exact this.symm
          rw [← HR.out, hAz, if_pos hz0])
        clear hz0
        go_wp2_with fail
        all_goals (go_ret; exact ⟨Mt.ret_int HE.out.symm, HB3.out⟩)
    · obtain rfl : i = n := by omega
      have e1 : decide ((i : Int) < (i : Int)) = false := decide_eq_false (by omega)
      have e2 : decide (i < i) = false := decide_eq_false (by omega)
      have hA0 : A = 0 := by rw [← HI.out, Mt.firstE_end]
      have HR2 : Hid ((if C ≠ 0 then C else Mt.chkRoot s) = R) := Lib.hid (by rw [← HR.out, hA0, if_neg (show ¬ (0 : Int) ≠ 0 by decide)])
      clear hA0 HR HI
      go_wp2_with fail
      go_loopw [38] (fun iv wr => ∃ i : Nat, i ≤ m ∧ iv = .int .i64 (i : Int) ∧ Hid (Mt.firstE (Mt.chkCl s) (m - i) i = C) ∧ Hid (Below w2.heap.size w2 wr)) (fun iv _ => m - (intOf iv).toNat)
      case atStart => exact ⟨0, Nat.zero_le _, rfl, HC0, HW⟩
      case round =>
        obtain ⟨j, hj, rfl, HI, HW⟩ := hrel
        clear q0 q1
        obtain ⟨q0, q1⟩ := HP.out wr HW.out
        have HB := Lib.hid (HA2.out.trans (HW.out.mono HA2.out.size))
        by_cases hlt2 : j < m
        · have e1 : decide ((j : Int) < (m : Int)) = true := decide_eq_true (by omega)
          have e2 : decide (j < m) = true := decide_eq_true hlt2
          have HK := Lib.hid (HC.out j hlt2 wr HB.out)
          have hst := Mt.firstE_step (Mt.chkCl s) m j hlt2
          obtain ⟨z, hz⟩ : ∃ z, Mt.chkCl s j = z := ⟨_, rfl⟩
          rw [hz] at HK hst
          have HS := Lib.hid (hst.symm.trans HI.out)
          clear hst hz HI
          go_wp2_with fail
          refine (HK.out).mono ?_
          rintro e w3 ⟨rfl, hb⟩
          have HB3 := Lib.hid (HB.out.trans (hb.mono HB.out.size))
          have HW3 := Lib.hid (HW.out.trans (hb.mono HW.out.size))
          clear hb
          by_cases hz0 : z = 0
          · subst hz0
            have HS2 : Hid (Mt.firstE (Mt.chkCl s) (m - (j + 1)) (j + 1) = C) := Lib.hid (by have := HS.out; rwa [if_neg (by decide)] at this)
            go_wp2_with fail
            go_roundw
            case rel => exact ⟨j + 1, by omega, by go_num, HS2, HW3⟩
            case measure => simp [intOf]; omega
          · have g0 : (z == 0) = false := beq_eq_false_iff_ne.2 hz0
            have g1 : (z != 0) = true := by simpa using hz0
            have HE : Hid (R = z) := Lib.hid (by
              have hAz : C = z := by have := HS.out; rw [if_pos hz0] at this; exact this.symm
              rw [← HR2.out, hAz, if_pos hz0])
            clear hz0
            go_wp2_with fail
            all_goals (go_ret; exact ⟨Mt.ret_int HE.out.symm, HB3.out⟩)
        · obtain rfl : j = m := by omega
          have e1 : decide ((j : Int) < (j : Int)) = false := decide_eq_false (by omega)
          have e2 : decide (j < j) = false := decide_eq_false (by omega)
          have hC0 : C = 0 := by rw [← HI.out, Mt.firstE_end]
          have HE : Hid (Mt.chkRoot s = R) := Lib.hid (by rw [← HR2.out, hC0, if_neg (by decide)])
          have HK := Lib.hid (HRT.out wr HB.out)
          rw [HE.out] at HK
          clear hC0 HR2 HI
          go_wp2_with fail
          refine (HK.out).mono ?_
          rintro e w3 ⟨rfl, hb⟩
          have HB3 := Lib.hid (HB.out.trans (hb.mono HB.out.size))
          clear hb
          go_wp2_with fail
          all_goals (go_ret; exact ⟨rfl, HB3.out⟩)
end Go.Proofs.Ythkhicpkkmhfbaa
