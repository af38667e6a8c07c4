/-
  Some texts of one proof, one behind the other.
-/
import Derived.Deep.CutRange
import Derived.Test.YtkinemlgifeimaaPk24
set_option linter.unusedVariables false
set_option linter.unusedSimpArgs false

/-
  What is wrong with a schema, as the document has it: the walk .
-/
namespace Go.Proofs.Ytkinemlgifeimaa
open Go.RowKit

set_option maxRecDepth 100000 in
set_option maxHeartbeats 8000000 in
theorem rcheck13_any {tv cv : Value} {s : Mt.Sc} {w : World} (h : IsSc w tv cv s) (hml : ∀ c ∈ s.classes, c.must.length + c.may.length ≤ 8796093022208) :
    Calls Try.prog 11 #[.agg #[tv, cv]] w fun e w' => e = .returned (.int .i64 (Mt.rchk s)) ∧ Below w.heap.size w w' := by
  have HSC := Lib.hid (fun (u : World) (hb : Below w.heap.size w u) => h.below hb)
  have hlt := h.tlen
  have hlc := h.clen
  obtain ⟨R, hR⟩ : ∃ R, Mt.rchk s = R := ⟨_, rfl⟩
  have hR2 := hR
  unfold Mt.rchk at hR
  rw [hR2]
  obtain ⟨ta, tcap, hv1, htc, HTS⟩ := h.types
  obtain ⟨ca, ccap, hv2, hcc, HCS⟩ := h.classes
  have htn := h.tnm
  have hcnm := h.cnm
  have HML0 := Lib.hid hml
  obtain ⟨n, hn⟩ : ∃ n, s.types.length = n := ⟨_, rfl⟩
  obtain ⟨m, hm⟩ : ∃ m, s.classes.length = m := ⟨_, rfl⟩
  have HNN := Lib.hid hn
  have HMM := Lib.hid hm
  rw [hn] at hv1 hlt hR htc
  rw [hm] at hv2 hlc hR hcc
  subst hv1 hv2
  have HTN := Lib.hid htn
  have HCN := Lib.hid hcnm
  obtain ⟨w1, hw1⟩ : ∃ w1, w.alloc (.cells #[.slice ta n tcap, .slice ca m ccap] 25) = w1 := ⟨_, rfl⟩
  have hA1 : Below w.heap.size w w1 := by rw [← hw1]; exact (Below.refl _ w).alloc (Nat.le_refl _) _
  have hs1 : w1.heap.size = w.heap.size + 1 := by rw [← hw1]; simp
  have hx1 : w1.heap[w.heap.size]? = some (.cells #[.slice ta n tcap, .slice ca m ccap] 25) := by rw [← hw1]; exact heap_alloc_new w _
  have HA1 := Lib.hid hA1
  have HP : Hid (∀ u, Below (w.heap.size + 1) w1 u → (u.cell? ⟨w.heap.size, 0, none⟩ = some (.slice ta n tcap) ∧ u.cell? ⟨w.heap.size, 1, none⟩ = some (.slice ca m ccap)) ∧ Below w.heap.size w u) := Lib.hid (fun u hu => by
    have r1 := (hu.block w.heap.size (by omega)).trans hx1
    exact ⟨⟨by rw [cell_of_row _ _ _ _ _ _ r1]; rfl, by rw [cell_of_row _ _ _ _ _ _ r1]; rfl⟩, hA1.trans (hu.mono (Nat.le_succ _))⟩)
  obtain ⟨p0, p1⟩ := (HP.out w1 (Below.refl _ _)).1
  clear h hn hm hx1 hA1 hR2 htn hcnm hml
  by_cases hbig : 128 < n ∨ 128 < m
  · have HE : Hid (R = 9) := Lib.hid (by rw [← hR, if_pos hbig])
    clear hR
    by_cases hb1 : 128 < n
    · have d1 : decide ((128 : Int) < (n : Int)) = true := decide_eq_true (by omega)
      have d2 : decide (128 < n) = true := decide_eq_true hb1
      clear hbig hb1
      go_enter Try.func11, Try.ntmps11
      go_wp2_with fail
      all_goals (go_ret; exact ⟨Mt.ret_int HE.out.symm, HA1.out⟩)
    · have d1 : decide ((128 : Int) < (n : Int)) = false := decide_eq_false (by omega)
      have d2 : decide (128 < n) = false := decide_eq_false hb1
      have d3 : decide ((128 : Int) < (m : Int)) = true := decide_eq_true (by omega)
      have d4 : decide (128 < m) = true := decide_eq_true (by omega)
      clear hbig hb1
      go_enter Try.func11, Try.ntmps11
      go_wp2_with fail
      all_goals (go_ret; exact ⟨Mt.ret_int HE.out.symm, HA1.out⟩)
  rw [if_neg hbig] at hR
  have HR := Lib.hid hR
  have d1 : decide ((128 : Int) < (n : Int)) = false := decide_eq_false (by omega)
  have d2 : decide (128 < n) = false := decide_eq_false (by omega)
  have d3 : decide ((128 : Int) < (m : Int)) = false := decide_eq_false (by omega)
  have d4 : decide (128 < m) = false := decide_eq_false (by omega)
  have hn128 : n ≤ 128 := by omega
  have hm128 : m ≤ 128 := by omega
  obtain ⟨A, hA⟩ : ∃ A, Mt.firstE (Mt.rTy s) n 0 = A := ⟨_, rfl⟩
  obtain ⟨C, hC⟩ : ∃ C, Mt.firstE (Mt.rCl s) m 0 = C := ⟨_, rfl⟩
  rw [hA, hC] at HR
  have HF0 := Lib.hid (show Mt.firstE (Mt.rTy s) (n - 0) 0 = A from hA)
  have HC0 := Lib.hid (show Mt.firstE (Mt.rCl s) (m - 0) 0 = C from hC)
  clear hR hbig hA hC
  go_enter Try.func11, Try.ntmps11
  go_wp2_with fail
  go_loopw [24] (fun iv wr => ∃ i : Nat, i ≤ n ∧ iv = .int .i64 (i : Int) ∧ Hid (Mt.firstE (Mt.rTy s) (n - i) i = A) ∧ Hid (Below (w.heap.size + 1) w1 wr)) (fun iv _ => n - (intOf iv).toNat)
  case atStart => exact ⟨0, Nat.zero_le _, rfl, HF0, Lib.hid (Below.refl _ _)⟩
  case round =>
    obtain ⟨i, hi, rfl, HI, HW⟩ := hrel
    clear p0 p1
    obtain ⟨⟨p0, p1⟩, hB⟩ := HP.out wr HW.out
    have HB := Lib.hid hB
    clear hB
    by_cases hlt2 : i < n
    · have e1 : decide ((i : Int) < (n : Int)) = true := decide_eq_true (by omega)
      have e2 : decide (i < n) = true := decide_eq_true hlt2
      have hit : i < s.types.length := by rw [HNN.out]; exact hlt2
      have hst := Mt.firstE_step (Mt.rTy s) n i hlt2
      rw [HI.out] at hst
      obtain ⟨z, hz⟩ : ∃ z, Mt.rTy s i = z := ⟨_, rfl⟩
      rw [hz] at hst
      have HS := Lib.hid hst
      have hz2 := hz
      unfold Mt.rTy at hz
      have hg := Mt.tyI_get hit
      obtain ⟨t, ht⟩ : ∃ t, s.types[i] = t := ⟨_, rfl⟩
      rw [ht] at hg
      rw [hg] at hz
      have htl : t.name.length ≤ 140737488351232 := by rw [← ht]; exact HTN.out _ (List.getElem_mem hit)
      obtain ⟨b, off, e0, hbl, h0, h1, h2, h3⟩ := HTS.out i hit
      rw [ht] at h0 h1 h2 h3
      subst e0
      have y0 := (HB.out.cell (p := ⟨b, off + i * 4, none⟩) hbl).trans h0
      have y1 := (HB.out.cell (p := ⟨b, off + i * 4 + 1, none⟩) hbl).trans h1
      have y2 := (HB.out.cell (p := ⟨b, off + i * 4 + 2, none⟩) hbl).trans h2
      have y3 := (HB.out.cell (p := ⟨b, off + i * 4 + 3, none⟩) hbl).trans h3
      have HT := Lib.hid (fun u => rtype_any (Mt.str t.name) u (by rw [Mt.str_size]; omega))
      rw [Mt.str_data] at HT
      have HK := Lib.hid (fun (u : World) (hb : Below w.heap.size w u) => rTyBef_any (HSC.out u hb) i (by omega) t.name (by omega))
      obtain ⟨k, hk⟩ : ∃ k, Mt.tyBef s i t.name = k := ⟨_, rfl⟩
      obtain ⟨TL, hTL⟩ : ∃ q, Mt.typL t.name = q := ⟨_, rfl⟩
      rw [hk] at HK hz
      rw [hTL] at HT hz
      have HZ := Lib.hid hz
      obtain ⟨N, hN⟩ : ∃ N, Mt.str t.name = N := ⟨_, rfl⟩
      rw [hN] at y0 HT HK
      generalize t.syn = sy at *
      generalize t.single = sg at *
      generalize t.oper = op at *
      obtain ⟨w2, hw2⟩ : ∃ u, wr.alloc (.cells #[.string N, .int .i64 sy, .bool sg, .bool op] 35) = u := ⟨_, rfl⟩
      have hb2 : Below wr.heap.size wr w2 := by rw [← hw2]; exact (Below.refl _ wr).alloc (Nat.le_refl _) _
      have hx2 : w2.heap[wr.heap.size]? = some (.cells #[.string N, .int .i64 sy, .bool sg, .bool op] 35) := by rw [← hw2]; exact heap_alloc_new wr _
      have hs2 : wr.heap.size < w2.heap.size := lt_of_block hx2
      have HW2 := Lib.hid (HW.out.trans (hb2.mono (show w.heap.size + 1 ≤ wr.heap.size by have := HW.out.size; omega)))
      have HQ : Hid (∀ u, Below w2.heap.size w2 u → (u.cell? ⟨w.heap.size, 0, none⟩ = some (.slice (some ⟨b, off, none⟩) n tcap) ∧ u.cell? ⟨w.heap.size, 1, none⟩ = some (.slice ca m ccap)) ∧ (u.cell? ⟨wr.heap.size, 0, none⟩ = some (.string N) ∧ u.cell? ⟨wr.heap.size, 1, none⟩ = some (.int .i64 sy)) ∧ Below w.heap.size w u ∧ Below (w.heap.size + 1) w1 u) := Lib.hid (fun u hu => by
        have r2 := (hu.block wr.heap.size hs2).trans hx2
        have hw := HW2.out.trans (hu.mono (show w.heap.size + 1 ≤ w2.heap.size by have := HW.out.size; omega))
        exact ⟨(HP.out u hw).1, ⟨by rw [cell_of_row _ _ _ _ _ _ r2]; rfl, by rw [cell_of_row _ _ _ _ _ _ r2]; rfl⟩, (HP.out u hw).2, hw⟩)
      have i0 : (0 : Int) ≤ (i : Int) := by omega
      have i1 : (i : Int) < (n : Int) := by omega
      have i2 : (i : Int) ≤ (tcap : Int) := by omega
      have i3 : i ≤ tcap := by omega
      clear h0 h1 h2 h3 hbl hit hst hz hz2 hg ht htl hk hTL hN hb2 hx2 hs2 HI
      go_upto_region 6 with fail
      clear p0 p1
      obtain ⟨⟨p0, p1⟩, ⟨z0, z1⟩, -, -⟩ := HQ.out w2 (Below.refl _ _)
      go_wp2_with fail
      refine (HT.out _).mono ?_
      rintro e w3 ⟨rfl, hb⟩
      have HY3 := Lib.hid hb
      clear hb p0 p1 z0 z1
      obtain ⟨⟨p0, p1⟩, ⟨z0, z1⟩, hB3, hW3⟩ := HQ.out w3 HY3.out
      have HB3 := Lib.hid hB3
      have HW3 := Lib.hid hW3
      clear hB3 hW3
      cases TL with
      | false =>
        have HE : Hid (R = 20) := Lib.hid (by
          have hzz : z = 20 := by rw [← HZ.out, if_pos rfl]
          have hAz : A = z := by have := HS.out; rw [hzz, if_pos (by decide)] at this; rw [hzz]; exact this
          rw [← HR.out, hAz, hzz]; rfl)
        go_wp2_with fail
        all_goals (go_ret; exact ⟨Mt.ret_int HE.out.symm, HB3.out⟩)
      | true =>
        have HZ2 := Lib.hid HZ.out
        rw [if_neg (by decide)] at HZ2
        have HEZ : Hid (z ≠ 0 → R = z) := Lib.hid (fun hz0 => by
          have hAz : A = z := by have := HS.out; rw [if_pos hz0] at this; exact this
          rw [← HR.out, hAz, if_pos hz0])
        have HS0 : Hid (z = 0 → Mt.firstE (Mt.rTy s) (n - (i + 1)) (i + 1) = A) := Lib.hid (fun hz0 => by
          have := HS.out; rw [if_neg (fun h => h hz0)] at this; exact this.symm)
        clear HZ HS
        go_upto_region 8 with fail
        have HBd := Lib.hid HB3.out.drew
        have HYd := Lib.hid HY3.out.drew
        by_cases hk0 : 0 ≤ k
        · have g0 : decide (0 ≤ k) = true := decide_eq_true hk0
          have HE : Hid (R = 21) := Lib.hid (by
            have hzz : z = 21 := by rw [← HZ2.out, if_pos hk0]
            rw [HEZ.out (by rw [hzz]; decide), hzz])
          clear hk0
          go_region_law (first | (go_simp; go_at_call 15; refine (HK.out _ HBd.out).mono ?_; rintro e w4 ⟨rfl, hb⟩; have HB4 := Lib.hid (HBd.out.trans (hb.mono HBd.out.size)); clear hb))
          all_goals
            go_wp2_with fail
            all_goals (go_ret; exact ⟨Mt.ret_int HE.out.symm, HB4.out⟩)
        · have g0 : decide (0 ≤ k) = false := decide_eq_false hk0
          by_cases hs1 : sy < 1
          · have HE : Hid (R = 23) := Lib.hid (by
              have hzz : z = 23 := by rw [← HZ2.out, if_neg hk0, if_pos (.inl hs1)]
              rw [HEZ.out (by rw [hzz]; decide), hzz])
            have g1 : decide (sy < 1) = true := decide_eq_true hs1
            clear hk0 hs1
            go_region_law (first | (go_simp; go_at_call 15; refine (HK.out _ HBd.out).mono ?_; rintro e w4 ⟨rfl, hb⟩; have HB4 := Lib.hid (HBd.out.trans (hb.mono HBd.out.size)); have HY4 := Lib.hid (HYd.out.trans (hb.mono HYd.out.size)); clear hb))
            all_goals
              clear p0 p1 z0 z1
              obtain ⟨⟨p0, p1⟩, ⟨z0, z1⟩, -, -⟩ := HQ.out _ HY4.out
              go_wp2_with fail
              all_goals (go_ret; exact ⟨Mt.ret_int HE.out.symm, HB4.out⟩)
          · have g1 : decide (sy < 1) = false := decide_eq_false hs1
            by_cases hs8 : 8 < sy
            · have HE : Hid (R = 23) := Lib.hid (by
                have hzz : z = 23 := by rw [← HZ2.out, if_neg hk0, if_pos (.inr hs8)]
                rw [HEZ.out (by rw [hzz]; decide), hzz])
              have g2 : decide (8 < sy) = true := decide_eq_true hs8
              clear hk0 hs1 hs8
              go_region_law (first | (go_simp; go_at_call 15; refine (HK.out _ HBd.out).mono ?_; rintro e w4 ⟨rfl, hb⟩; have HB4 := Lib.hid (HBd.out.trans (hb.mono HBd.out.size)); have HY4 := Lib.hid (HYd.out.trans (hb.mono HYd.out.size)); clear hb))
              all_goals
                clear p0 p1 z0 z1
                obtain ⟨⟨p0, p1⟩, ⟨z0, z1⟩, -, -⟩ := HQ.out _ HY4.out
                go_wp2_with fail
                all_goals (go_ret; exact ⟨Mt.ret_int HE.out.symm, HB4.out⟩)
            · have g2 : decide (8 < sy) = false := decide_eq_false hs8
              have HN := Lib.hid (HS0.out (by rw [← HZ2.out, if_neg hk0, if_neg (fun h => h.elim hs1 hs8)]))
              clear hk0 hs1 hs8
              go_region_law (first | (go_simp; go_at_call 15; refine (HK.out _ HBd.out).mono ?_; rintro e w4 ⟨rfl, hb⟩; have HB4 := Lib.hid (HBd.out.trans (hb.mono HBd.out.size)); have HY4 := Lib.hid (HYd.out.trans (hb.mono HYd.out.size)); clear hb))
              all_goals
                clear p0 p1 z0 z1
                obtain ⟨⟨p0, p1⟩, ⟨z0, z1⟩, -, hw4⟩ := HQ.out _ HY4.out
                have HW4 := Lib.hid hw4
                clear hw4
                go_wp2_with fail
                go_roundw
                case rel => exact ⟨i + 1, by omega, by go_num, HN, HW4⟩
                case measure => simp [intOf]; omega
    · obtain rfl : i = n := by omega
      have e1 : decide ((i : Int) < (i : Int)) = false := decide_eq_false (by omega)
      have e2 : decide (i < i) = false := decide_eq_false (by omega)
      have hA0 : A = 0 := by rw [← HI.out, Mt.firstE_end]
      have HR2 : Hid ((if C ≠ 0 then C else Mt.rRoot s) = R) := Lib.hid (by rw [← HR.out, hA0, if_neg (show ¬ (0 : Int) ≠ 0 by decide)])
      clear hA0 HR HI
      go_wp2_with fail
      go_loopw [53] (fun iv wr => ∃ j : Nat, j ≤ m ∧ iv = .int .i64 (j : Int) ∧ Hid (Mt.firstE (Mt.rCl s) (m - j) j = C) ∧ Hid (Below (w.heap.size + 1) w1 wr)) (fun iv _ => m - (intOf iv).toNat)
      case atStart => exact ⟨0, Nat.zero_le _, rfl, HC0, HW⟩
      case round =>
        obtain ⟨j, hj, rfl, HI, HW⟩ := hrel
        clear p0 p1
        obtain ⟨⟨p0, p1⟩, hB⟩ := HP.out wr HW.out
        have HB := Lib.hid hB
        clear hB
        by_cases hlt2 : j < m
        · have e1 : decide ((j : Int) < (m : Int)) = true := decide_eq_true (by omega)
          have e2 : decide (j < m) = true := decide_eq_true hlt2
          have hit : j < s.classes.length := by rw [HMM.out]; exact hlt2
          have hst := Mt.firstE_step (Mt.rCl s) m j hlt2
          rw [HI.out] at hst
          obtain ⟨z, hz⟩ : ∃ z, Mt.rCl s j = z := ⟨_, rfl⟩
          rw [hz] at hst
          have HEZ : Hid (z ≠ 0 → R = z) := Lib.hid (fun hz0 => by
            have hAz : C = z := by rw [hst, if_pos hz0]
            rw [← HR2.out, hAz, if_pos hz0])
          have HS0 : Hid (z = 0 → Mt.firstE (Mt.rCl s) (m - (j + 1)) (j + 1) = C) := Lib.hid (fun hz0 => by
            rw [hst, if_neg (fun h => h hz0)])
          obtain ⟨b, off, mv, yv, e0, hbl, h0, h1, h2, h3, h4, hmv, hyv⟩ := HCS.out j hit
          have hcm := HCN.out _ (List.getElem_mem hit)
          have hmy := HML0.out _ (List.getElem_mem hit)
          have hg := Mt.clI_get hit
          have hzz := hz
          unfold Mt.rCl Mt.rKind at hzz
          rw [hg] at hzz
          have hupd : Mt.rUp s j = Mt.clBef s j (Mt.clI s (j : Int)).sup := rfl
          rw [hg] at hupd
          obtain ⟨c, hc⟩ : ∃ c, s.classes[j] = c := ⟨_, rfl⟩
          rw [hc] at hzz hupd h0 h1 h2 hmv hyv hcm hmy
          obtain ⟨am, cm, rfl, -, -⟩ := id hmv
          obtain ⟨ay, cy, rfl, -, -⟩ := id hyv
          subst e0
          have HMV := Lib.hid (fun (u : World) (hb : Below w.heap.size w u) => And.intro (hmv.below hb) (hyv.below hb))
          have y0 := (HB.out.cell (p := ⟨b, off + j * 5, none⟩) hbl).trans h0
          have y1 := (HB.out.cell (p := ⟨b, off + j * 5 + 1, none⟩) hbl).trans h1
          have y2 := (HB.out.cell (p := ⟨b, off + j * 5 + 2, none⟩) hbl).trans h2
          have y3 := (HB.out.cell (p := ⟨b, off + j * 5 + 3, none⟩) hbl).trans h3
          have y4 := (HB.out.cell (p := ⟨b, off + j * 5 + 4, none⟩) hbl).trans h4
          have HT := Lib.hid (fun u => rtype_any (Mt.str c.name) u (by rw [Mt.str_size]; omega))
          rw [Mt.str_data] at HT
          have HK := Lib.hid (fun (u : World) (hb : Below w.heap.size w u) => rClBef_any (HSC.out u hb) j (by omega) c.name (by omega))
          have HK2 := Lib.hid (fun (u : World) (hb : Below w.heap.size w u) => rClBef_any (HSC.out u hb) j (by omega) c.sup (by omega))
          rw [← hupd] at HK2
          have hur : -1 ≤ Mt.rUp s j ∧ Mt.rUp s j < j := by
            have := Mt.atL_range (fun x : Mt.Cl => Mt.sameN x.name c.sup) (s.classes.take j)
            rw [List.length_take] at this
            rw [hupd]
            unfold Mt.clBef
            omega
          have HKD : Hid (∀ (x : Nat), x < m → ∀ u, Below w.heap.size w u → u.cell? ⟨b, off + x * 5 + 2, none⟩ = some (.int .i64 (Mt.clI s (x : Int)).kind)) := Lib.hid (fun x hx u hu => by
            have hxl : x < s.classes.length := by rw [HMM.out]; exact hx
            obtain ⟨b', off', m', y', e0', hbl', g0', g1', g2', g3', g4', -, -⟩ := HCS.out x hxl
            cases e0'
            rw [Mt.clI_get hxl]
            exact (hu.cell (p := ⟨b, off + x * 5 + 2, none⟩) hbl').trans g2')
          obtain ⟨k, hk⟩ : ∃ k, Mt.clBef s j c.name = k := ⟨_, rfl⟩
          obtain ⟨up, hup⟩ : ∃ k, Mt.rUp s j = k := ⟨_, rfl⟩
          obtain ⟨TL, hTL⟩ : ∃ q, Mt.typL c.name = q := ⟨_, rfl⟩
          obtain ⟨LK, hLK⟩ : ∃ q, (c.must ++ c.may).any (Mt.lacks s) = q := ⟨_, rfl⟩
          rw [hk, hup, hTL, hLK] at hzz
          rw [hk] at HK
          rw [hup] at HK2 hur
          rw [hTL] at HT
          have HZ := Lib.hid hzz
          have HLK := Lib.hid hLK
          obtain ⟨ML, hML⟩ : ∃ l, c.must = l := ⟨_, rfl⟩
          obtain ⟨YL, hYL⟩ : ∃ l, c.may = l := ⟨_, rfl⟩
          rw [hML, hYL] at HMV HLK hcm hmy
          rw [hML] at y3 h3
          rw [hYL] at y4 h4
          obtain ⟨N, hN⟩ : ∃ N, Mt.str c.name = N := ⟨_, rfl⟩
          obtain ⟨U, hU⟩ : ∃ N, Mt.str c.sup = N := ⟨_, rfl⟩
          rw [hN] at y0 HT HK
          rw [hU] at y1 HK2
          have HU : Hid (U.toList.isEmpty = decide (c.sup = [])) := Lib.hid (by
            rw [← hU, ByteArray.toList_eq, Mt.str_data, Bool.eq_iff_iff, List.isEmpty_iff, decide_eq_true_eq])
          have HCM := Lib.hid hcm
          generalize c.kind = kc at *
          obtain ⟨w2, hw2⟩ : ∃ u, wr.alloc (.cells #[.string N, .string U, .int .i64 kc, .slice am ML.length cm, .slice ay YL.length cy] 31) = u := ⟨_, rfl⟩
          have hb2 : Below wr.heap.size wr w2 := by rw [← hw2]; exact (Below.refl _ wr).alloc (Nat.le_refl _) _
          have hx2 : w2.heap[wr.heap.size]? = some (.cells #[.string N, .string U, .int .i64 kc, .slice am ML.length cm, .slice ay YL.length cy] 31) := by rw [← hw2]; exact heap_alloc_new wr _
          have hs2 : wr.heap.size < w2.heap.size := lt_of_block hx2
          have HW2 := Lib.hid (HW.out.trans (hb2.mono (show w.heap.size + 1 ≤ wr.heap.size by have := HW.out.size; omega)))
          have HQ : Hid (∀ u, Below w2.heap.size w2 u → (u.cell? ⟨w.heap.size, 0, none⟩ = some (.slice ta i tcap) ∧ u.cell? ⟨w.heap.size, 1, none⟩ = some (.slice (some ⟨b, off, none⟩) m ccap)) ∧ (u.cell? ⟨wr.heap.size, 0, none⟩ = some (.string N) ∧ u.cell? ⟨wr.heap.size, 1, none⟩ = some (.string U) ∧ u.cell? ⟨wr.heap.size, 2, none⟩ = some (.int .i64 kc) ∧ u.cell? ⟨wr.heap.size, 3, none⟩ = some (.slice am ML.length cm) ∧ u.cell? ⟨wr.heap.size, 4, none⟩ = some (.slice ay YL.length cy)) ∧ Below w.heap.size w u ∧ Below (w.heap.size + 1) w1 u) := Lib.hid (fun u hu => by
            have r2 := (hu.block wr.heap.size hs2).trans hx2
            have hw := HW2.out.trans (hu.mono (show w.heap.size + 1 ≤ w2.heap.size by have := HW.out.size; omega))
            exact ⟨(HP.out u hw).1, (box5_of r2).1, (HP.out u hw).2, hw⟩)
          have i0 : (0 : Int) ≤ (j : Int) := by omega
          have i1 : (j : Int) < (m : Int) := by omega
          have i2 : (j : Int) ≤ (ccap : Int) := by omega
          have i3 : j ≤ ccap := by omega
          clear h0 h1 h2 h3 h4 hbl hit hst hz hzz hupd hg hc hcm hk hup hTL hLK hML hYL hN hU hb2 hx2 hs2 HI hmv hyv
          go_upto_region 16 with fail
          clear p0 p1
          obtain ⟨⟨p0, p1⟩, ⟨z0, z1, z2, z3, z4⟩, -, -⟩ := HQ.out w2 (Below.refl _ _)
          go_wp2_with fail
          refine (HT.out _).mono ?_
          rintro e w3 ⟨rfl, hb⟩
          have HY3 := Lib.hid hb
          clear hb p0 p1 z0 z1 z2 z3 z4
          obtain ⟨⟨p0, p1⟩, ⟨z0, z1, z2, z3, z4⟩, hB3, hW3⟩ := HQ.out w3 HY3.out
          have HB3 := Lib.hid hB3
          clear hB3 hW3
          cases TL with
          | false =>
            have HE : Hid (R = 20) := Lib.hid (by
              have hzz : z = 20 := by rw [← HZ.out, if_pos rfl]
              rw [HEZ.out (by rw [hzz]; decide), hzz])
            go_wp2_with fail
            all_goals (go_ret; exact ⟨Mt.ret_int HE.out.symm, HB3.out⟩)
          | true =>
            have HZ2 := Lib.hid HZ.out
            rw [if_neg (by decide)] at HZ2
            clear HZ
            go_upto_region 18 with fail
            have HBd := Lib.hid HB3.out.drew
            have HYd := Lib.hid HY3.out.drew
            by_cases hk0 : 0 ≤ k
            · have g0 : decide (0 ≤ k) = true := decide_eq_true hk0
              have HE : Hid (R = 21) := Lib.hid (by
                have hzz : z = 21 := by rw [← HZ2.out, if_pos hk0]
                rw [HEZ.out (by rw [hzz]; decide), hzz])
              clear hk0
              go_region_law (first | (go_simp; go_at_call 16; refine (HK.out _ HBd.out).mono ?_; rintro e w4 ⟨rfl, hb⟩; have HB4 := Lib.hid (HBd.out.trans (hb.mono HBd.out.size)); clear hb))
              all_goals
                go_wp2_with fail
                all_goals (go_ret; exact ⟨Mt.ret_int HE.out.symm, HB4.out⟩)
            · have g0 : decide (0 ≤ k) = false := decide_eq_false hk0
              have HZ3 : Hid ((if kc < 0 ∨ 2 < kc then (23 : Int) else if c.sup ≠ [] ∧ up < 0 then 22 else if (decide (c.sup = []) && decide (kc ≠ 0) || decide (c.sup ≠ []) && decide ((Mt.clI s up).kind ≠ 0) && decide ((Mt.clI s up).kind ≠ kc)) = true then 2 else if LK = true then 22 else 0) = z) := Lib.hid (by rw [← HZ2.out, if_neg hk0])
              clear HZ2 hk0
              go_region_held3 (fun w' => w'.cell? ⟨w.heap.size, 1, none⟩ = some (.slice (some ⟨b, off, none⟩) m ccap) ∧ w'.cell? ⟨wr.heap.size, 0, none⟩ = some (.string N))
                (first
                  | with_reducible exact ⟨p1, z0⟩
                  | go_keep)
                (first
                  | (go_at_call 16; refine (HK.out _ HBd.out).mono ?_; rintro e w4 ⟨rfl, hb⟩; have HB4 := Lib.hid (HBd.out.trans (hb.mono HBd.out.size)); have HY4 := Lib.hid (HYd.out.trans (hb.mono HYd.out.size)); clear p0 p1 z0 z1 z2 z3 z4; obtain ⟨⟨p0, p1⟩, ⟨z0, z1, z2, z3, z4⟩, -, -⟩ := HQ.out _ HY4.out; clear hb))
              by_cases hk3 : kc < 0 ∨ 2 < kc
              · have HE : Hid (R = 23) := Lib.hid (by
                  have hzz : z = 23 := by rw [← HZ3.out, if_pos hk3]
                  rw [HEZ.out (by rw [hzz]; decide), hzz])
                by_cases hkn : kc < 0
                · have g1 : decide (kc < 0) = true := decide_eq_true hkn
                  clear hk3 hkn
                  go_wp2_with fail
                  all_goals (go_ret; exact ⟨Mt.ret_int HE.out.symm, HB4.out⟩)
                · have g1 : decide (kc < 0) = false := decide_eq_false hkn
                  have g2 : decide (2 < kc) = true := decide_eq_true (hk3.resolve_left hkn)
                  clear hk3 hkn
                  go_wp2_with fail
                  all_goals (go_ret; exact ⟨Mt.ret_int HE.out.symm, HB4.out⟩)
              have HZ4 := Lib.hid HZ3.out
              rw [if_neg hk3] at HZ4
              have g1 : decide (kc < 0) = false := decide_eq_false (fun h => hk3 (.inl h))
              have g2 : decide (2 < kc) = false := decide_eq_false (fun h => hk3 (.inr h))
              clear HZ3 hk3
              go_upto_region 22 with fail
              have HBd4 := Lib.hid HB4.out.drew
              have HYd4 := Lib.hid HY4.out.drew
              go_region_held3 (fun w' => w'.cell? ⟨w.heap.size, 1, none⟩ = some (.slice (some ⟨b, off, none⟩) m ccap) ∧ w'.cell? ⟨wr.heap.size, 1, none⟩ = some (.string U))
                (first
                  | with_reducible exact ⟨p1, z1⟩
                  | go_keep)
                (first
                  | (go_at_call 16; refine (HK2.out _ HBd4.out).mono ?_; rintro e w5 ⟨rfl, hb⟩; have HB5 := Lib.hid (HBd4.out.trans (hb.mono HBd4.out.size)); have HY5 := Lib.hid (HYd4.out.trans (hb.mono HYd4.out.size)); clear p0 p1 z0 z1 z2 z3 z4; obtain ⟨⟨p0, p1⟩, ⟨z0, z1, z2, z3, z4⟩, -, -⟩ := HQ.out _ HY5.out; clear hb))
              obtain ⟨ku, hku⟩ : ∃ q, (Mt.clI s up).kind = q := ⟨_, rfl⟩
              rw [hku] at HZ4
              obtain ⟨B23, hB23⟩ : ∃ q, (decide (c.sup ≠ []) && decide (up < 0)) = q := ⟨_, rfl⟩
              obtain ⟨B25, hB25⟩ : ∃ q, (decide (c.sup = []) && decide (kc ≠ 0) || decide (c.sup ≠ []) && decide (ku ≠ 0) && decide (ku ≠ kc)) = q := ⟨_, rfl⟩
              have HZT : Hid ((if B23 = true then (22 : Int) else if B25 = true then 2 else if LK = true then 22 else 0) = z) := Lib.hid (by
                rw [← HZ4.out, ← hB23, ← hB25]
                simp only [Bool.and_eq_true, decide_eq_true_eq])
              have HB23 := Lib.hid hB23
              have HB25 := Lib.hid hB25
              have HKU := Lib.hid hku
              clear HZ4 hB23 hB25 hku
              go_upto_region 23 with fail
              go_cut [53, 91] from 53 to 143 (fun t53 t91 wx => t53 = .int .i64 (j : Int) ∧ t91 = .bool B23 ∧ Hid (Below w2.heap.size w2 wx))
              case first =>
                by_cases hse : c.sup = []
                · have he : U.toList.isEmpty = true := by rw [HU.out, decide_eq_true hse]
                  have hb : B23 = false := by rw [← HB23.out]; simp [hse]
                  subst hb
                  clear hse
                  go_wp2_with fail
                  go_meet
                  case rel => exact ⟨rfl, rfl, HY5⟩
                · have he : U.toList.isEmpty = false := by rw [HU.out, decide_eq_false hse]
                  by_cases hun : up < 0
                  · have f0 : decide (up < 0) = true := decide_eq_true hun
                    have hb : B23 = true := by rw [← HB23.out]; simp [hse, hun]
                    subst hb
                    clear hse hun
                    go_wp2_with fail
                    go_meet
                    case rel => exact ⟨rfl, rfl, HY5⟩
                  · have f0 : decide (up < 0) = false := decide_eq_false hun
                    have hb : B23 = false := by rw [← HB23.out]; simp [hun]
                    subst hb
                    clear hse hun
                    go_wp2_with fail
                    go_meet
                    case rel => exact ⟨rfl, rfl, HY5⟩
              case rest =>
                obtain ⟨rfl, rfl, HY6⟩ := hcut
                clear p0 p1 z0 z1 z2 z3 z4 HY5 HB5 HYd4 HBd4 HY4 HB4 HK HK2 HT
                generalize wc = wq at *
                obtain ⟨⟨p0, p1⟩, ⟨z0, z1, z2, z3, z4⟩, hB6, -⟩ := HQ.out _ HY6.out
                have HB6 := Lib.hid hB6
                clear hB6
                cases B23 with
                | true =>
                  have HE : Hid (R = 22) := Lib.hid (by
                    have hzz : z = 22 := by rw [← HZT.out, if_pos rfl]
                    rw [HEZ.out (by rw [hzz]; decide), hzz])
                  go_wp2_with fail
                  all_goals (go_ret; exact ⟨Mt.ret_int HE.out.symm, HB6.out⟩)
                | false =>
                  have HZ5 : Hid ((if B25 = true then (2 : Int) else if LK = true then 22 else 0) = z) := Lib.hid (by have := HZT.out; rwa [if_neg (show ¬ false = true by decide)] at this)
                  clear HZT
                  go_upto_region 25 with fail
                  go_cut [53, 124] from 53 to 143 (fun t53 t124 wx => t53 = .int .i64 (j : Int) ∧ t124 = .bool B25 ∧ Hid (Below w2.heap.size w2 wx))
                  case first =>
                    by_cases hse : c.sup = []
                    · have he : U.toList.isEmpty = true := by rw [HU.out, decide_eq_true hse]
                      by_cases hk00 : kc = 0
                      · have hb : B25 = false := by rw [← HB25.out]; simp [hse, hk00]
                        subst hb
                        subst hk00
                        clear hse
                        go_quiet (fail)
                        go_wp2_with fail
                        go_meet
                        case rel => exact ⟨rfl, rfl, Lib.hid (Below.drewS HY6.out _)⟩
                      · have hb : B25 = true := by rw [← HB25.out]; simp [hse, hk00]
                        subst hb
                        have f0 : (kc == 0) = false := beq_eq_false_iff_ne.2 hk00
                        have f1 : (kc != 0) = true := by simpa using hk00
                        clear hse hk00
                        go_quiet (fail)
                        go_wp2_with fail
                        go_meet
                        case rel => exact ⟨rfl, rfl, Lib.hid (Below.drewS HY6.out _)⟩
                    · have he : U.toList.isEmpty = false := by rw [HU.out, decide_eq_false hse]
                      have hun : ¬ up < 0 := fun h => by have := HB23.out; simp [hse, h] at this
                      obtain ⟨x, rfl⟩ := Int.eq_ofNat_of_zero_le (show 0 ≤ up by omega)
                      have hxm : x < m := by omega
                      have xx0 : (0 : Int) ≤ (x : Int) := by omega
                      have xx1 : (x : Int) < (m : Int) := by omega
                      have xk := HKD.out x hxm wq HB6.out
                      rw [HKU.out] at xk
                      by_cases hk00 : ku = 0
                      · have hb : B25 = false := by rw [← HB25.out]; simp [hse, hk00]
                        subst hb
                        rw [hk00] at xk
                        clear hse hun
                        go_quiet (fail)
                        go_wp2_with fail
                        go_meet
                        case rel => exact ⟨rfl, rfl, Lib.hid (Below.drewS HY6.out _)⟩
                      · have f2 : (ku == 0) = false := beq_eq_false_iff_ne.2 hk00
                        have f3 : (ku != 0) = true := by simpa using hk00
                        by_cases hkk : ku = kc
                        · have hb : B25 = false := by rw [← HB25.out]; simp [hse, hkk]
                          subst hb
                          rw [hkk] at xk f2 f3
                          clear hse hun hk00 hkk
                          go_quiet (fail)
                          go_wp2_with fail
                          go_meet
                          case rel => exact ⟨rfl, rfl, Lib.hid (Below.drewS HY6.out _)⟩
                        · have hb : B25 = true := by rw [← HB25.out]; simp [hse, hk00, hkk]
                          subst hb
                          have f4 : (ku == kc) = false := beq_eq_false_iff_ne.2 hkk
                          have f5 : (ku != kc) = true := by simpa using hkk
                          clear hse hun hk00 hkk
                          go_quiet (fail)
                          go_wp2_with fail
                          go_meet
                          case rel => exact ⟨rfl, rfl, Lib.hid (Below.drewS HY6.out _)⟩
                  case rest =>
                    obtain ⟨rfl, rfl, HY7⟩ := hcut
                    clear p0 p1 z0 z1 z2 z3 z4 HY6 HB6
                    generalize wc = wz at *
                    obtain ⟨⟨p0, p1⟩, ⟨z0, z1, z2, z3, z4⟩, hB7, -⟩ := HQ.out _ HY7.out
                    have HB7 := Lib.hid hB7
                    clear hB7
                    cases B25 with
                    | true =>
                      have HE : Hid (R = 2) := Lib.hid (by
                        have hzz : z = 2 := by rw [← HZ5.out, if_pos rfl]
                        rw [HEZ.out (by rw [hzz]; decide), hzz])
                      go_wp2_with fail
                      all_goals (go_ret; exact ⟨Mt.ret_int HE.out.symm, HB7.out⟩)
                    | false =>
                      have HZ6 : Hid ((if LK = true then (22 : Int) else 0) = z) := Lib.hid (by have := HZ5.out; rwa [if_neg (show ¬ false = true by decide)] at this)
                      clear HZ5
                      obtain ⟨L, hL⟩ : ∃ L, ML.length + YL.length = L := ⟨_, rfl⟩
                      have HL := Lib.hid hL
                      have hLb : L ≤ 8796093022208 := by omega
                      go_upto_region 27 with fail
                      have hba : Below wz.heap.size wz (wz.alloc (.cells #[] 9)).drew := ((Below.refl _ wz).alloc (Nat.le_refl _) _).drew
                      have hxa : (wz.alloc (.cells #[] 9)).drew.heap[wz.heap.size]? = some (.cells #[] 9) := heap_alloc_new wz _
                      have hoa : IsOwn 9 1 wz.heap.size (wz.alloc (.cells #[] 9)).drew (.slice (some ⟨wz.heap.size, 0, none⟩) 0 0) ([] : List (List UInt8)).length (nms []) := ⟨wz.heap.size, Nat.le_refl _, rfl, .inr ⟨0, 0, #[], rfl, hxa, Nat.le_refl _, Nat.le_refl _, fun j hj => absurd hj (by simp [nms])⟩⟩
                      have hya : Below w2.heap.size w2 (wz.alloc (.cells #[] 9)).drew := HY7.out.trans (hba.mono HY7.out.size)
                      obtain ⟨-, ⟨-, -, -, z3a, z4a⟩, hBa, -⟩ := HQ.out _ hya
                      obtain ⟨a6, c6, w6, hrun6, own6, hb6⟩ := own_cat13 hoa hba.size (HMV.out _ hBa).1 (by simp; omega)
                      have hy6 : Below w2.heap.size w2 w6 := hya.trans (hb6.mono HY7.out.size)
                      obtain ⟨-, ⟨-, -, -, z3b, z4b⟩, hB6, -⟩ := HQ.out w6 hy6
                      obtain ⟨a7, c7, w7, hrun7, own7, hb7⟩ := own_cat13 own6 (Nat.le_trans hba.size hb6.size) (HMV.out w6 hB6).2 (by simp; omega)
                      have HY8 : Hid (Below w2.heap.size w2 w7) := Lib.hid (hy6.trans (hb7.mono HY7.out.size))
                      obtain ⟨-, ⟨-, -, -, z3c, z4c⟩, -, -⟩ := HQ.out w7 HY8.out
                      simp only [List.length_nil, Nat.zero_add, List.nil_append] at hrun6 hrun7 own7
                      rw [hL] at hrun7 own7
                      have HO7 : Hid (IsNms w7 (.slice a7 L c7) (ML ++ YL)) := Lib.hid (IsOwn.nms own7)
                      clear hxa hoa hya hba own6 own7 hb6 hb7 hB6 hBa hy6
                      go_cut [53, 131, 132, 133] from 53 to 143 (fun t53 t131 t132 t133 wx => t53 = .int .i64 (j : Int) ∧ t132 = .int .i64 (L : Int) ∧ t133 = .int .i64 0 ∧ ∃ a7 c7, t131 = .slice a7 L c7 ∧ Hid (IsNms wx (.slice a7 L c7) (ML ++ YL)) ∧ Hid (Below w2.heap.size w2 wx))
                      case first =>
                        obtain ⟨z3d, z4d⟩ : wz.drew.cell? ⟨wr.heap.size, 3, none⟩ = some (.slice am ML.length cm) ∧ wz.drew.cell? ⟨wr.heap.size, 4, none⟩ = some (.slice ay YL.length cy) := ⟨z3, z4⟩
                        go_region_held3 (fun w' => w'.cell? ⟨wr.heap.size, 3, none⟩ = some (.slice am ML.length cm) ∧ w'.cell? ⟨wr.heap.size, 4, none⟩ = some (.slice ay YL.length cy))
                          (first
                            | with_reducible exact ⟨z3, z4⟩
                            | with_reducible exact ⟨z3d, z4d⟩
                            | with_reducible exact ⟨z3a, z4a⟩
                            | with_reducible exact ⟨z3b, z4b⟩
                            | with_reducible exact ⟨z3c, z4c⟩)
                          (first
                            | (refine step_append_eq (w := (wz.alloc (.cells #[] 9)).drew) rfl _ _ 29 29 rfl _ _ (by rfl) (by rfl) hrun6 ?_)
                            | (refine step_append_eq (w := w6) rfl _ _ 29 29 rfl _ _ (by rfl) (by rfl) hrun7 ?_))
                        all_goals
                          go_wp2_with fail
                          go_meet
                          case rel => exact ⟨rfl, by go_num, rfl, _, _, rfl, HO7, HY8⟩
                      case rest =>
                        obtain ⟨rfl, rfl, rfl, a8, c8, rfl, HO8, HY9⟩ := hcut
                        clear p0 p1 z0 z1 z2 z3 z4 HY7 HB7 HO7 HY8 hrun6 hrun7 z3a z4a z3b z4b z3c z4c hL
                        generalize wc = wv at *
                        have hbw9 : w2.heap.size ≤ wv.heap.size := HY9.out.size
                        go_wp2_with fail
                        go_loopw [133] (fun iv wr => ∃ q : Nat, q ≤ L ∧ iv = .int .i64 (q : Int) ∧ Hid (((ML ++ YL).drop q).any (Mt.lacks s) = LK) ∧ Hid (Below wv.heap.size wv wr)) (fun iv _ => L - (intOf iv).toNat)
                        case atStart => exact ⟨0, Nat.zero_le _, rfl, HLK, Lib.hid (Below.refl _ _)⟩
                        case round =>
                          obtain ⟨q, hq, rfl, HIQ, HWQ⟩ := hrel
                          have HYQ : Hid (Below w2.heap.size w2 wr) := Lib.hid (HY9.out.trans (HWQ.out.mono hbw9))
                          obtain ⟨⟨p0, p1⟩, -, hBQ, hWQ1⟩ := HQ.out wr HYQ.out
                          have HBQ := Lib.hid hBQ
                          have HWQ1 := Lib.hid hWQ1
                          clear hBQ hWQ1
                          by_cases hlt3 : q < L
                          · have e1 : decide ((q : Int) < (L : Int)) = true := decide_eq_true (by omega)
                            have e2 : decide (q < L) = true := decide_eq_true hlt3
                            have i4 : (0 : Int) ≤ (q : Int) := by omega
                            have i5 : (q : Int) < (L : Int) := by omega
                            have hql : q < (ML ++ YL).length := by rw [List.length_append, HL.out]; exact hlt3
                            obtain ⟨a9, c9, e9, hc9, hcell9⟩ := HO8.out
                            have ea : a8 = a9 := by injection e9
                            subst ea
                            clear e9
                            obtain ⟨b8, off8, e8, hbl8, hy8⟩ := hcell9.out q hql
                            subst e8
                            have yq := (HWQ.out.cell (p := ⟨b8, off8 + q, none⟩) hbl8).trans hy8
                            have hnl : (ML ++ YL)[q].length ≤ 140737488351232 := by
                              have hm := List.getElem_mem hql
                              rcases List.mem_append.1 hm with h | h
                              · exact HCM.out.2.2.2.2.1 _ h
                              · exact HCM.out.2.2.2.2.2 _ h
                            have hdr := List.drop_eq_getElem_cons hql
                            have hiq := HIQ.out
                            rw [hdr, List.any_cons] at hiq
                            have HKQ := Lib.hid (fun (u : World) (hb : Below w.heap.size w u) => rTyAt_any (HSC.out u hb) (ML ++ YL)[q] hnl)
                            have hlk : Mt.lacks s (ML ++ YL)[q] = decide (Mt.tyAt s (ML ++ YL)[q] < 0) := rfl
                            obtain ⟨NQ, hNQ⟩ : ∃ N, Mt.str (ML ++ YL)[q] = N := ⟨_, rfl⟩
                            rw [hlk] at hiq
                            generalize Mt.tyAt s (ML ++ YL)[q] = KQ at *
                            rw [hNQ] at yq HKQ
                            have HIQ2 := Lib.hid hiq
                            clear hc9 hy8 hbl8 hnl hdr hiq hlk hNQ HIQ
                            go_wp2_with fail
                            refine (HKQ.out _ HBQ.out).mono ?_
                            rintro e w9 ⟨rfl, hb⟩
                            have HB9 := Lib.hid (HBQ.out.trans (hb.mono HBQ.out.size))
                            have HW9 := Lib.hid (HYQ.out.trans (hb.mono HYQ.out.size))
                            have HV9 := Lib.hid (HWQ.out.trans (hb.mono HWQ.out.size))
                            clear hb
                            by_cases hKQ : KQ < 0
                            · have f9 : decide (KQ < 0) = true := decide_eq_true hKQ
                              have HE : Hid (R = 22) := Lib.hid (by
                                have hLK : LK = true := by rw [← HIQ2.out, f9, Bool.true_or]
                                have hzz : z = 22 := by rw [← HZ6.out, if_pos hLK]
                                rw [HEZ.out (by rw [hzz]; decide), hzz])
                              clear hKQ
                              go_wp2_with fail
                              all_goals (go_ret; exact ⟨Mt.ret_int HE.out.symm, HB9.out⟩)
                            · have f9 : decide (KQ < 0) = false := decide_eq_false hKQ
                              have HIQ3 : Hid (((ML ++ YL).drop (q + 1)).any (Mt.lacks s) = LK) := Lib.hid (by rw [← HIQ2.out, f9, Bool.false_or])
                              clear hKQ
                              go_wp2_with fail
                              go_roundw
                              case rel => exact ⟨q + 1, by omega, by go_num, HIQ3, HV9⟩
                              case measure => simp [intOf]; omega
                          · obtain rfl : q = L := by omega
                            have e1 : decide ((q : Int) < (q : Int)) = false := decide_eq_false (by omega)
                            have e2 : decide (q < q) = false := decide_eq_false (by omega)
                            have hLK : LK = false := by rw [← HIQ.out, List.drop_eq_nil_of_le (by rw [List.length_append, HL.out]; exact Nat.le_refl _)]; rfl
                            have HN := Lib.hid (HS0.out (by rw [← HZ6.out, hLK, if_neg (by decide)]))
                            clear hLK
                            go_wp2_with fail
                            all_goals
                              go_roundw
                              case rel => exact ⟨j + 1, by omega, by go_num, HN, HWQ1⟩
                              case measure => simp [intOf]; omega
        · obtain rfl : j = m := by omega
          have e1 : decide ((j : Int) < (j : Int)) = false := decide_eq_false (by omega)
          have e2 : decide (j < j) = false := decide_eq_false (by omega)
          have hC0 : C = 0 := by rw [← HI.out, Mt.firstE_end]
          have HR3 : Hid (Mt.rRoot s = R) := Lib.hid (by rw [← HR2.out, hC0, if_neg (show ¬ (0 : Int) ≠ 0 by decide)])
          have hrs : Mt.str Mt.rootL = ⟨#[111, 98, 106, 101, 99, 116, 99, 108, 97, 115, 115]⟩ := rfl
          have hkr := Mt.tyAt_range s Mt.rootL
          have HK := Lib.hid (fun (u : World) (hb : Below w.heap.size w u) => rTyAt_any (HSC.out u hb) Mt.rootL (by decide))
          have hR3 := HR3.out
          unfold Mt.rRoot at hR3
          obtain ⟨k, hk⟩ : ∃ k, Mt.tyAt s Mt.rootL = k := ⟨_, rfl⟩
          rw [hk] at hR3 HK hkr
          rw [hrs] at HK
          have HR4 := Lib.hid hR3
          clear hC0 HR2 HI HR3 hR3 hk hrs
          by_cases hneg : k < 0
          · have HE : Hid (R = 22) := Lib.hid (by rw [← HR4.out, if_pos hneg])
            have d5 : decide (k < 0) = true := decide_eq_true hneg
            clear hneg hkr
            go_wp2_with fail
            refine (HK.out _ HB.out).mono ?_
            rintro e w2 ⟨rfl, hb⟩
            have HB2 := Lib.hid (HB.out.trans (hb.mono HB.out.size))
            clear hb
            go_wp2_with fail
            all_goals (go_ret; exact ⟨Mt.ret_int HE.out.symm, HB2.out⟩)
          · obtain ⟨x, rfl⟩ := Int.eq_ofNat_of_zero_le (show 0 ≤ k by omega)
            have hxl : x < s.types.length := by omega
            have hxi : x < i := by rw [← HNN.out]; exact hxl
            have d5 : decide ((x : Int) < 0) = false := decide_eq_false hneg
            obtain ⟨b, off, e0, hbl, h0, h1, h2, h3⟩ := HTS.out x hxl
            subst e0
            have hg := Mt.tyI_get hxl
            obtain ⟨t, ht⟩ : ∃ t, s.types[x] = t := ⟨_, rfl⟩
            rw [ht] at h1 h2 hg
            have HCL := Lib.hid (fun (u : World) (hb : Below w.heap.size w u) => And.intro ((hb.cell (p := ⟨b, off + x * 4 + 1, none⟩) hbl).trans h1) ((hb.cell (p := ⟨b, off + x * 4 + 2, none⟩) hbl).trans h2))
            have HE0 : Hid ((if t.syn ≠ 3 ∨ t.single = true then (2 : Int) else 0) = R) := Lib.hid (by rw [← HR4.out, if_neg hneg, hg])
            have j0 : (0 : Int) ≤ (x : Int) := by omega
            have j1 : (x : Int) < (i : Int) := by omega
            clear h0 h1 h2 h3 ht hg hbl hneg hkr HR4
            generalize t.syn = sy at *
            generalize t.single = sg at *
            go_wp2_with fail
            refine (HK.out _ HB.out).mono ?_
            rintro e w2 ⟨rfl, hb⟩
            have HB2 := Lib.hid (HB.out.trans (hb.mono HB.out.size))
            have hW2 : Below (w.heap.size + 1) w1 w2 := HW.out.trans (hb.mono (show w.heap.size + 1 ≤ wr.heap.size by have := HW.out.size; omega))
            clear p0 p1 hb
            obtain ⟨⟨p0, p1⟩, -⟩ := HP.out w2 hW2
            obtain ⟨x1, x2⟩ := HCL.out w2 HB2.out
            clear hW2
            by_cases h3 : sy = 3
            · subst h3
              cases sg with
              | true =>
                have HE : Hid (R = 2) := Lib.hid (by rw [← HE0.out]; rfl)
                go_wp2_with fail
                all_goals (go_ret; exact ⟨Mt.ret_int HE.out.symm, HB2.out⟩)
              | false =>
                have HE : Hid (R = 0) := Lib.hid (by rw [← HE0.out]; rfl)
                go_wp2_with fail
                all_goals (go_ret; exact ⟨Mt.ret_int HE.out.symm, HB2.out⟩)
            · have f0 : (sy == 3) = false := beq_eq_false_iff_ne.2 h3
              have f1 : (sy != 3) = true := by simpa using h3
              have HE : Hid (R = 2) := Lib.hid (by rw [← HE0.out, if_pos (.inl h3)])
              clear h3
              go_wp2_with fail
              all_goals (go_ret; exact ⟨Mt.ret_int HE.out.symm, HB2.out⟩)
end Go.Proofs.Ytkinemlgifeimaa
