/-
  Some texts of one proof, one behind the other.
-/
import Derived.StillTailTactics
import Derived.Deep.RegionLaw
import Derived.Test.YtnioagojiipjlaaGreatPk32
import Derived.Test.YtnioagojiipjlaaGreatPk36
import Derived.Test.YtnioagojiipjlaaGreatPk53
set_option linter.unusedVariables false
set_option linter.unusedSimpArgs false

/-
  JournalLasts: the walk.
-/
namespace Go.Proofs.YtnioagojiipjlaaGreat
open Go.RowKit Go.Maps

set_option maxHeartbeats 16000000 in
set_option maxRecDepth 100000 in
theorem jlasts (v0 : Value) (L0 : List (List UInt8)) (a1 : Option Addr) (c1 : Nat) (f : Nat → Cu) (n1 : Nat) (w : World) (h0 : IsTs w v0 L0) (l0 : L0.length ≤ 9223372036854775807 ∧ ∀ b ∈ L0, b.length ≤ 9223372036854775807) (h1 : IsCuts w a1 n1 f) (hn1 : n1 ≤ 9223372036854775807) :
    Calls Tryz.prog 4 #[v0, .slice a1 n1 c1] w fun e w' => e = .returned (.bool true) ∧ Below w.heap.size w w' := by
  have HAW := Lib.hid (fun u => awake6_any u)
  obtain ⟨a0, c0, rfl, HT0⟩ := h0.open
  have HCU := Lib.hid h1
  have HL0 := Lib.hid l0.2
  obtain ⟨NB, hNB⟩ : ∃ n, L0.length = n := ⟨_, rfl⟩
  have HNB := Lib.hid hNB
  have hnb := l0.1
  rw [hNB] at hnb ⊢
  clear h0 l0 h1 hNB
  go_enter Tryz.func4, Tryz.ntmps4
  go_wp2_with fail
  refine (HAW.out _).mono ?_
  rintro e w1 ⟨rfl, hb⟩
  have HB1 := Lib.hid hb
  clear hb
  by_cases hbig : 30 < NB ∨ 8 < n1
  · have HEND : ∀ u : World, Hid (Below w.heap.size w u) → Calls Tryz.prog 8 #[] u fun e w' => e = .returned (.bool true) ∧ Hid (Below w.heap.size w w') := fun u hu => (HAW.out u).mono fun e w' ⟨h1, h2⟩ => ⟨h1, Lib.hid (hu.out.trans (h2.mono hu.out.size))⟩
    have HE4 := Lib.hid (HEND _ HB1)
    by_cases h40 : 30 < NB
    · have d1 : decide ((30 : Int) < (NB : Int)) = true := decide_eq_true (by omega)
      clear hbig h40 HEND
      go_wp2_with fail
      refine (HE4.out).mono ?_
      rintro e w5 ⟨rfl, HB5⟩
      go_wp2_with fail
      go_ret
      exact ⟨rfl, HB5.out⟩
    · have d1 : decide ((30 : Int) < (NB : Int)) = false := decide_eq_false (by omega)
      have d2 : decide ((8 : Int) < (n1 : Int)) = true := decide_eq_true (by omega)
      clear hbig h40 HEND
      go_wp2_with fail
      refine (HE4.out).mono ?_
      rintro e w5 ⟨rfl, HB5⟩
      go_wp2_with fail
      go_ret
      exact ⟨rfl, HB5.out⟩
  · have d1 : decide ((30 : Int) < (NB : Int)) = false := decide_eq_false (by omega)
    have d2 : decide ((8 : Int) < (n1 : Int)) = false := decide_eq_false (by omega)
    have hNB30 : NB ≤ 30 := by omega
    have hNL8 : n1 ≤ 8 := by omega
    have HNEW : Hid (Calls Tryz.prog 6 #[.int .i64 40] w1 fun e w' => e = .returned (.pointer (some ⟨w1.heap.size + 2, 0, none⟩)) ∧ IsDisk w' (w1.heap.size + 2) w1.heap.size (w1.heap.size + 1) (Mt.Dk.new 40) ∧ Below w1.heap.size w1 w') := Lib.hid (new_any 40 w1)
    have HNEW2 : Hid (∀ u : World, Calls Tryz.prog 7 #[.int .i64 40] u fun e w' => ∃ g : Rg, e = .returned (.pointer (some ⟨g.R, 0, none⟩)) ∧ u.heap.size ≤ g.R ∧ u.heap.size ≤ g.bl ∧ u.heap.size ≤ g.bw ∧ (g.bl < g.D ∧ g.bw < g.D ∧ g.P = (fun _ => False) ∧ g.D = w'.heap.size) ∧ IsR w' g 0 (Mt.Dk.new 40) ∧ Below u.heap.size u w') := Lib.hid (fun u => enew_any 40 u)
    have HHD := Lib.hid Mt.new_head
    generalize Mt.Dk.new 40 = dn at *
    clear hbig hnb hn1 HAW
    go_wp2_with fail
    refine (HNEW.out).mono ?_
    rintro e w3 ⟨rfl, hd, hb⟩
    generalize hB : w1.heap.size + 2 = B at *
    generalize hbm : w1.heap.size + 1 = bm at *
    generalize hbl : w1.heap.size = bl at hd
    have HBN : Hid (w.heap.size ≤ B ∧ w.heap.size ≤ bl ∧ w.heap.size ≤ bm) := Lib.hid (by have := HB1.out.size; omega)
    have HD3 := Lib.hid hd
    have HB3 := Lib.hid (HB1.out.trans (hb.mono HB1.out.size))
    clear hB hbm hbl hd hb HNEW HB1
    go_wp2_with fail
    refine (HNEW2.out _).mono ?_
    rintro e w4 ⟨g, rfl, g1, g2, g3, g4, hr, hb⟩
    have HS4 := Lib.hid (Syn.new HD3.out HBN.out g1 g2 g3 g4 hr hb)
    have HB4 := Lib.hid (HB3.out.trans (hb.mono HB3.out.size))
    clear g1 g2 g3 g4 hr hb HNEW2 HD3 HB3 HBN
    obtain ⟨x, hxB, hxl, hxm, hxR, hxN⟩ : ∃ x : En, B = x.B ∧ bl = x.bl ∧ bm = x.bm ∧ g.R = x.R ∧ n1 = x.NL := ⟨⟨B, bl, bm, g.R, n1⟩, rfl, rfl, rfl, rfl, rfl⟩
    subst hxB hxl hxm hxN
    have HH0 : Hid (HeadP w w4 x 0 0 (.slice none 0 0) [] false []) := Lib.hid ⟨g, 0, dn, hxR, HS4.out, ToldP.nil _ _ _ _ _ _, HHD.out, by omega, by decide, HB4.out⟩
    rw [hxR]
    clear hxR HS4 HB4 HHD
    go_wp2_with fail
    go_loopw [11, 10, 9, 8, 7] (fun nv iv ov mv tv wr => ∃ (k i : Nat) (ob : Bool) (mb : List UInt8) (told : List (List UInt8)) (ta : Option Addr) (tc : Nat), k ≤ x.NL ∧ i ≤ NB ∧ nv = .int .i64 (k : Int) ∧ iv = .int .i64 (i : Int) ∧ ov = .bool ob ∧ mv = .string (Mt.str mb) ∧ tv = .slice ta told.length tc ∧ Hid (HeadP w wr x k i (.slice ta told.length tc) told ob mb)) (fun nv _ _ _ _ _ => x.NL + 1 - (intOf nv).toNat)
    case atStart => exact ⟨0, 0, false, [], [], none, 0, Nat.zero_le _, Nat.zero_le _, rfl, rfl, rfl, rfl, rfl, HH0⟩
    case round =>
      obtain ⟨k, i, ob, mb, told, ta, tc, hk, hi, rfl, rfl, rfl, rfl, rfl, HH⟩ := hrel
      have hk8 : k ≤ 8 := by omega
      have hi30 : i ≤ 30 := by omega
      by_cases hlt : k < x.NL
      · obtain ⟨hok, b, off, e0, hbl, cN, cK, cT, cA⟩ := HCU.out k hlt
        have HOK := Lib.hid hok
        have d3 : decide ((k : Int) < (x.NL : Int)) = true := decide_eq_true (by omega)
        have d3n : decide (k < x.NL) = true := decide_eq_true (by omega)
        have d4 : (0 : Int) ≤ (k : Int) := by omega
        have HCL : Hid (∀ u, Below w.heap.size w u → u.cell? ⟨b, off + k * 4, none⟩ = some (.int .i64 (f k).N) ∧ u.cell? ⟨b, off + k * 4 + 1, none⟩ = some (.int .u64 ((f k).K : Int)) ∧ u.cell? ⟨b, off + k * 4 + 2, none⟩ = some (.int .i64 (f k).T) ∧ u.cell? ⟨b, off + k * 4 + 3, none⟩ = some (.int .i64 (f k).A)) := Lib.hid (fun u hu => ⟨(hu.cell (p := ⟨b, off + k * 4, none⟩) hbl).trans cN, (hu.cell (p := ⟨b, off + k * 4 + 1, none⟩) hbl).trans cK, (hu.cell (p := ⟨b, off + k * 4 + 2, none⟩) hbl).trans cT, (hu.cell (p := ⟨b, off + k * 4 + 3, none⟩) hbl).trans cA⟩)
        obtain ⟨x0, x1, x2, x3⟩ := HCL.out _ HH.out.bel
        have HCT := Lib.hid (fun u hu => (HH.out.below (u := u) hu).cut hlt (f k) HOK.out)
        subst e0
        clear hok hbl cN cK cT cA
        have hlti : (k : Int) < (x.NL : Int) := by omega
        go_upto_region 10 with fail
        refine wp_region_still_tail 11 (by kernel_rfl) (by kernel_rfl) ?_
        simp only [List.take_succ_cons, List.take_zero, List.drop_succ_cons, List.drop_zero]
        repeat still_step
        refine wpStill_nil ?_
        change wpList _ _ _ _ _ wr.drew
        have HCT2 := Lib.hid (HCT.out wr.drew ((Below.refl _ _).drew))
        clear x0 x1 x2 x3 HCT HH
        go_wp2_with fail
        refine (HCT2.out).mono ?_
        rintro e w5 ⟨rfl, h5⟩
        obtain ⟨x0, x1, x2, x3⟩ := HCL.out _ h5.out.1
        have HCT3 := Lib.hid h5.out.2
        clear h5 HCT2
        go_upto_region 11 with fail
        refine wp_region_still_tail 11 (by kernel_rfl) (by kernel_rfl) ?_
        simp only [List.take_succ_cons, List.take_zero, List.drop_succ_cons, List.drop_zero]
        repeat still_step
        refine wpStill_nil ?_
        change wpList _ _ _ _ _ w5.drew
        have HCT4 := Lib.hid (HCT3.out w5.drew ((Below.refl _ _).drew))
        clear x0 x1 x2 x3 HCT3 HCL
        go_wp2_with fail
        refine (HCT4.out).mono ?_
        rintro e w4' ⟨rfl, HO⟩
        clear HCT4
        obtain ⟨g2, t2, d2, ho⟩ := HO.out
        have HO2 := Lib.hid ho
        have HOP := Lib.hid (ho.open hk8 hi30)
        clear ho HO
        go_wp2_with fail
        refine (HOP.out).mono ?_
        rintro e w5 ⟨y, J, rfl, h5⟩
        have HOPb := Lib.hid h5.out.2.2
        have HYN := Lib.hid h5.out.2.1
        obtain ⟨ya, yc, rfl, -⟩ := h5.out.1.open
        clear h5 HOP
        go_wp2_with fail
        refine (HOPb.out).mono ?_
        rintro e w6 ⟨z, Q, sl, g', rfl, h6⟩
        obtain ⟨k1, k2, k3, k4, k5⟩ := h6.out
        have HR6 := Lib.hid k1
        have HS6 := Lib.hid k2
        have HP6 := Lib.hid k3
        have HT6 := Lib.hid k4
        have HB6 := Lib.hid k5
        clear h6 HOPb k1 k2 k3 k4 k5
        obtain ⟨oe, hoe⟩ : ∃ oe, Mt.opE d2 = oe := ⟨_, rfl⟩
        obtain ⟨pj, hpj⟩ : ∃ p, Option.map (fun _ => (⟨J, 0, none⟩ : Addr)) (Mt.opJ d2) = p := ⟨_, rfl⟩
        obtain ⟨pq, hpq⟩ : ∃ p, Option.map (fun _ => (⟨Q, 0, none⟩ : Addr)) (Mt.opJ d2) = p := ⟨_, rfl⟩
        obtain ⟨m, hm⟩ : ∃ m, (Mt.opL d2).length = m := ⟨_, rfl⟩
        rw [hoe, hpj, hpq, hm]
        rw [hm] at HT6 HYN
        have HOE := Lib.hid hoe
        have HPJ := Lib.hid hpj
        have HPQ := Lib.hid hpq
        have HM := Lib.hid hm
        clear hoe hpj hpq hm
        have HMX := Lib.hid (rmixed_any HS6.out.isR HO2.out.2.2.2.1.torn (by have := HO2.out.2.2.2.2.1; omega))
        rw [HR6.out] at HMX
        go_wp2_with fail
        refine (HMX.out).mono ?_
        rintro e w7 ⟨bm', rfl, hbm', hb⟩
        have HS7 := Lib.hid (HS6.out.below hb)
        have HP7 := Lib.hid (HP6.out.below hb)
        have HT7 := Lib.hid (HT6.out.below hb)
        have HB7 := Lib.hid (HB6.out.trans (hb.mono HB6.out.size))
        clear hb HS6 HP6 HT6 HB6 HMX
        cases bm' with
        | true =>
          clear hbm'
          go_wp2_with fail
          go_ret
          exact ⟨rfl, HB7.out⟩
        | false =>
          have hway := HO2.out.way hk8 hi30 HR6.out HS7.out HP7.out HB7.out (hbm'.1 rfl)
          clear hbm' HS7 HP7
          rcases hway with ⟨T, hM, e1, e2, ⟨jj, e3⟩, hTl, hA, hBb⟩ | ⟨e1, e3, hD⟩
          · obtain rfl : oe = 0 := HOE.out.symm.trans e1
            obtain rfl : pj = some ⟨J, 0, none⟩ := by rw [← HPJ.out, e3]; rfl
            obtain rfl : pq = some ⟨Q, 0, none⟩ := by rw [← HPQ.out, e3]; rfl
            obtain rfl : m = T.length := by rw [← HM.out, e2]
            rw [e2] at HT7
            have HA := Lib.hid hA
            have HBB := Lib.hid hBb
            clear HOE HPJ HPQ HM hA hBb e1 e2 e3 HO2 HR6
            cases ob with
            | false =>
              obtain rfl : T = told := by
                rcases hM with h | ⟨h, _⟩
                · exact h
                · cases h
              have HRUN := Lib.hid (HA.out rfl)
              clear HA HBB hM
              have HTY := Lib.hid HRUN.out.ts
              have HSM := Lib.hid (same6_any HT7.out HTY.out.1 (by have := HTY.out.2.1; omega) (by have := HTY.out.2.1; omega))
              rw [show decide (T = T) = true from decide_eq_true rfl] at HSM
              clear HTY
              go_wp2_with fail
              refine (HSM.out).mono ?_
              rintro e w8 ⟨rfl, hb⟩
              have HRUN8 := Lib.hid (HRUN.out.below hb)
              clear hb HSM HRUN HT7
              go_wp2_with fail

              go_loopw [10, 14, 7, 8, 9] (fun iv ev tv mv ov wr => ∃ (i : Nat) (told : List (List UInt8)) (ta : Option Addr) (tc : Nat) (mb : List UInt8) (ob : Bool) (E : Int), i ≤ NB ∧ iv = .int .i64 (i : Int) ∧ ev = .int .i64 E ∧ tv = .slice ta told.length tc ∧ mv = .string (Mt.str mb) ∧ ov = .bool ob ∧ Hid ((E = 0 ∧ ob = false ∧ RunP w wr x k i (.slice ta told.length tc) told J Q) ∨ (E = 10 ∧ DownP w wr x k i (.slice ta told.length tc) told ob mb))) (fun iv _ _ _ _ _ => NB - (intOf iv).toNat)
              case atStart => exact ⟨i, T, ta, tc, mb, false, 0, hi, rfl, rfl, rfl, rfl, rfl, Lib.hid (.inl ⟨rfl, rfl, HRUN8.out⟩)⟩
              case round =>
                obtain ⟨i2, told2, ta2, tc2, mb2, ob2, E, hi2, rfl, rfl, rfl, rfl, rfl, HH2⟩ := hrel
                rcases HH2.out with ⟨rfl, rfl, hrun⟩ | ⟨rfl, hdown⟩
                · have HRUN2 := Lib.hid hrun
                  clear hrun HH2
                  by_cases hlt2 : i2 < NB
                  · obtain ⟨b0, off0, e0, hbl0, hc0⟩ := HT0.out i2 (by rw [HNB.out]; exact hlt2)
                    obtain ⟨s0, hs0⟩ : ∃ s, L0[i2]'(by rw [HNB.out]; exact hlt2) = s := ⟨_, rfl⟩
                    rw [hs0] at hc0
                    have hcc := (HRUN2.out.ts.2.2.cell (p := ⟨b0, off0 + i2, none⟩) hbl0).trans hc0
                    have HC := Lib.hid (fun u => cut6_any s0 300 u (by rw [← hs0]; exact HL0.out _ (List.getElem_mem _)) (by omega))
                    have d3 : decide ((i2 : Int) < (NB : Int)) = true := decide_eq_true (by omega)
                    have d3n : decide (i2 < NB) = true := decide_eq_true (by omega)
                    have d4 : (0 : Int) ≤ (i2 : Int) := by omega
                    have HAP := Lib.hid (fun b hb => HRUN2.out.append hk8 (by omega) b hb)
                    subst e0
                    clear hc0 hs0 HRUN2
                    go_wp2_with fail
                    refine (HC.out _).mono ?_
                    rintro e w10 ⟨rfl, rfl⟩
                    have HAP2 := Lib.hid (HAP.out (s0.take 300) (by rw [List.length_take]; omega))
                    generalize s0.take 300 = bb at *
                    clear hcc HC HAP
                    go_wp2_with fail
                    refine (HAP2.out).mono ?_
                    rintro e w11 ⟨E, rfl, h11⟩
                    have HAP3 := Lib.hid h11.out
                    clear h11 HAP2
                    go_wp2_with fail
                    refine (HAP3.out).mono ?_
                    rintro e w12 ⟨rfl, h12⟩
                    rcases h12.out with ⟨rfl, h13⟩ | ⟨rfl, a', c', w3, hrun, h13⟩ | ⟨rfl, h13⟩
                    · have HN := Lib.hid h13
                      clear h12 h13 HAP3
                      go_wp2_with fail
                      go_roundw
                      case rel => exact ⟨i2 + 1, told2, ta2, tc2, mb2, false, 0, by omega, by go_num, rfl, rfl, rfl, rfl, Lib.hid (.inl ⟨rfl, rfl, HN.out⟩)⟩
                      case measure => simp [intOf]; omega
                    · clear h12 HAP3
                      go_wp2_with (refine wpList_append_run rfl _ _ 30 30 rfl _ _ rfl rfl hrun ?_)
                      go_roundw
                      case rel => exact ⟨i2 + 1, told2 ++ [bb], a', c', mb2, false, 0, by omega, by go_num, rfl, by rw [List.length_append]; rfl, rfl, rfl, Lib.hid (.inl ⟨rfl, rfl, by rw [List.length_append]; exact h13.out⟩)⟩
                      case measure => simp [intOf]; omega
                    · have HN := Lib.hid h13
                      clear h12 h13 HAP3
                      go_wp2_with fail
                      go_roundw
                      case rel => exact ⟨i2 + 1, told2, ta2, tc2, bb, true, 10, by omega, by go_num, rfl, rfl, rfl, rfl, Lib.hid (.inr ⟨rfl, HN.out⟩)⟩
                      case measure => simp [intOf]; omega
                  · have d3 : decide ((i2 : Int) < (NB : Int)) = false := decide_eq_false (by omega)
                    have d3n : decide (i2 < NB) = false := decide_eq_false (by omega)
                    have HLS := Lib.hid (HRUN2.out.last hk8)
                    have hts := HRUN2.out.ts.2.1
                    clear HRUN2
                    go_wp2_with fail
                    refine (HLS.out).mono ?_
                    rintro e w13 ⟨rfl, h13⟩
                    have HLS2 := Lib.hid h13.out
                    clear h13 HLS
                    go_wp2_with fail
                    refine (HLS2.out).mono ?_
                    rintro e w14 ⟨y2, J2, rfl, h14⟩
                    have HB14 := Lib.hid h14.out.2.2
                    have HSM2 := Lib.hid (same6_any h14.out.1 h14.out.2.1 (by omega) (by omega))
                    rw [show decide (told2 = told2) = true from decide_eq_true rfl] at HSM2
                    obtain ⟨y2a, y2c, rfl, -⟩ := h14.out.1.open
                    clear h14 HLS2
                    go_wp2_with fail
                    refine (HSM2.out).mono ?_
                    rintro e w15 ⟨rfl, hb⟩
                    have HB15 := Lib.hid (HB14.out.trans (hb.mono HB14.out.size))
                    clear hb HSM2
                    go_wp2_with fail
                    go_ret
                    exact ⟨rfl, HB15.out⟩
                · have HDN := Lib.hid hdown
                  clear hdown HH2
                  by_cases hlt2 : i2 < NB
                  · have d3 : decide ((i2 : Int) < (NB : Int)) = true := decide_eq_true (by omega)
                    have d3n : decide (i2 < NB) = true := decide_eq_true (by omega)
                    obtain ⟨hkl, hon⟩ := HDN.out.on
                    have HON := Lib.hid hon
                    have q1 : decide ((x.NL : Int) ≤ (k : Int)) = false := decide_eq_false (by omega)
                    have q2 : decide (x.NL ≤ k) = false := decide_eq_false (by omega)
                    clear hon HDN hkl
                    go_wp2_with fail
                    refine (HON.out).mono ?_
                    rintro e w20 ⟨rfl, h20⟩
                    have HON2 := Lib.hid h20.out
                    clear h20 HON
                    go_wp2_with fail
                    refine (HON2.out).mono ?_
                    rintro e w21 ⟨rfl, h21⟩
                    have HH3 := Lib.hid h21.out
                    clear h21 HON2
                    go_wp2_with fail
                    go_roundw
                    case rel => exact ⟨k + 1, i2, ob2, mb2, told2, ta2, tc2, by omega, by omega, by go_num, rfl, rfl, rfl, rfl, HH3⟩
                    case measure => simp [intOf]; omega
                  · have d3 : decide ((i2 : Int) < (NB : Int)) = false := decide_eq_false (by omega)
                    have d3n : decide (i2 < NB) = false := decide_eq_false (by omega)
                    obtain ⟨hkl, hon⟩ := HDN.out.on
                    have HON := Lib.hid hon
                    have q1 : decide ((x.NL : Int) ≤ (k : Int)) = false := decide_eq_false (by omega)
                    have q2 : decide (x.NL ≤ k) = false := decide_eq_false (by omega)
                    clear hon HDN hkl
                    go_wp2_with fail
                    refine (HON.out).mono ?_
                    rintro e w20 ⟨rfl, h20⟩
                    have HON2 := Lib.hid h20.out
                    clear h20 HON
                    go_wp2_with fail
                    refine (HON2.out).mono ?_
                    rintro e w21 ⟨rfl, h21⟩
                    have HH3 := Lib.hid h21.out
                    clear h21 HON2
                    go_wp2_with fail
                    go_roundw
                    case rel => exact ⟨k + 1, i2, ob2, mb2, told2, ta2, tc2, by omega, by omega, by go_num, rfl, rfl, rfl, rfl, HH3⟩
                    case measure => simp [intOf]; omega
            | true =>
              rcases hM with rfl | ⟨-, rfl⟩
              · have HRUN := Lib.hid (HA.out rfl)
                clear HA HBB
                have d2' : ((T.length : Int) == (T.length : Int) + 1) = false := beq_eq_false_iff_ne.2 (by omega)
                have HTY := Lib.hid HRUN.out.ts
                have HSM := Lib.hid (same6_any HT7.out HTY.out.1 (by have := HTY.out.2.1; omega) (by have := HTY.out.2.1; omega))
                rw [show decide (T = T) = true from decide_eq_true rfl] at HSM
                clear HTY
                go_wp2_with fail
                refine (HSM.out).mono ?_
                rintro e w8 ⟨rfl, hb⟩
                have HRUN8 := Lib.hid (HRUN.out.below hb)
                clear hb HSM HRUN HT7
                go_wp2_with fail

                go_loopw [10, 14, 7, 8, 9] (fun iv ev tv mv ov wr => ∃ (i : Nat) (told : List (List UInt8)) (ta : Option Addr) (tc : Nat) (mb : List UInt8) (ob : Bool) (E : Int), i ≤ NB ∧ iv = .int .i64 (i : Int) ∧ ev = .int .i64 E ∧ tv = .slice ta told.length tc ∧ mv = .string (Mt.str mb) ∧ ov = .bool ob ∧ Hid ((E = 0 ∧ ob = false ∧ RunP w wr x k i (.slice ta told.length tc) told J Q) ∨ (E = 10 ∧ DownP w wr x k i (.slice ta told.length tc) told ob mb))) (fun iv _ _ _ _ _ => NB - (intOf iv).toNat)
                case atStart => exact ⟨i, T, ta, tc, mb, false, 0, hi, rfl, rfl, rfl, rfl, rfl, Lib.hid (.inl ⟨rfl, rfl, HRUN8.out⟩)⟩
                case round =>
                  obtain ⟨i2, told2, ta2, tc2, mb2, ob2, E, hi2, rfl, rfl, rfl, rfl, rfl, HH2⟩ := hrel
                  rcases HH2.out with ⟨rfl, rfl, hrun⟩ | ⟨rfl, hdown⟩
                  · have HRUN2 := Lib.hid hrun
                    clear hrun HH2
                    by_cases hlt2 : i2 < NB
                    · obtain ⟨b0, off0, e0, hbl0, hc0⟩ := HT0.out i2 (by rw [HNB.out]; exact hlt2)
                      obtain ⟨s0, hs0⟩ : ∃ s, L0[i2]'(by rw [HNB.out]; exact hlt2) = s := ⟨_, rfl⟩
                      rw [hs0] at hc0
                      have hcc := (HRUN2.out.ts.2.2.cell (p := ⟨b0, off0 + i2, none⟩) hbl0).trans hc0
                      have HC := Lib.hid (fun u => cut6_any s0 300 u (by rw [← hs0]; exact HL0.out _ (List.getElem_mem _)) (by omega))
                      have d3 : decide ((i2 : Int) < (NB : Int)) = true := decide_eq_true (by omega)
                      have d3n : decide (i2 < NB) = true := decide_eq_true (by omega)
                      have d4 : (0 : Int) ≤ (i2 : Int) := by omega
                      have HAP := Lib.hid (fun b hb => HRUN2.out.append hk8 (by omega) b hb)
                      subst e0
                      clear hc0 hs0 HRUN2
                      go_wp2_with fail
                      refine (HC.out _).mono ?_
                      rintro e w10 ⟨rfl, rfl⟩
                      have HAP2 := Lib.hid (HAP.out (s0.take 300) (by rw [List.length_take]; omega))
                      generalize s0.take 300 = bb at *
                      clear hcc HC HAP
                      go_wp2_with fail
                      refine (HAP2.out).mono ?_
                      rintro e w11 ⟨E, rfl, h11⟩
                      have HAP3 := Lib.hid h11.out
                      clear h11 HAP2
                      go_wp2_with fail
                      refine (HAP3.out).mono ?_
                      rintro e w12 ⟨rfl, h12⟩
                      rcases h12.out with ⟨rfl, h13⟩ | ⟨rfl, a', c', w3, hrun, h13⟩ | ⟨rfl, h13⟩
                      · have HN := Lib.hid h13
                        clear h12 h13 HAP3
                        go_wp2_with fail
                        go_roundw
                        case rel => exact ⟨i2 + 1, told2, ta2, tc2, mb2, false, 0, by omega, by go_num, rfl, rfl, rfl, rfl, Lib.hid (.inl ⟨rfl, rfl, HN.out⟩)⟩
                        case measure => simp [intOf]; omega
                      · clear h12 HAP3
                        go_wp2_with (refine wpList_append_run rfl _ _ 30 30 rfl _ _ rfl rfl hrun ?_)
                        go_roundw
                        case rel => exact ⟨i2 + 1, told2 ++ [bb], a', c', mb2, false, 0, by omega, by go_num, rfl, by rw [List.length_append]; rfl, rfl, rfl, Lib.hid (.inl ⟨rfl, rfl, by rw [List.length_append]; exact h13.out⟩)⟩
                        case measure => simp [intOf]; omega
                      · have HN := Lib.hid h13
                        clear h12 h13 HAP3
                        go_wp2_with fail
                        go_roundw
                        case rel => exact ⟨i2 + 1, told2, ta2, tc2, bb, true, 10, by omega, by go_num, rfl, rfl, rfl, rfl, Lib.hid (.inr ⟨rfl, HN.out⟩)⟩
                        case measure => simp [intOf]; omega
                    · have d3 : decide ((i2 : Int) < (NB : Int)) = false := decide_eq_false (by omega)
                      have d3n : decide (i2 < NB) = false := decide_eq_false (by omega)
                      have HLS := Lib.hid (HRUN2.out.last hk8)
                      have hts := HRUN2.out.ts.2.1
                      clear HRUN2
                      go_wp2_with fail
                      refine (HLS.out).mono ?_
                      rintro e w13 ⟨rfl, h13⟩
                      have HLS2 := Lib.hid h13.out
                      clear h13 HLS
                      go_wp2_with fail
                      refine (HLS2.out).mono ?_
                      rintro e w14 ⟨y2, J2, rfl, h14⟩
                      have HB14 := Lib.hid h14.out.2.2
                      have HSM2 := Lib.hid (same6_any h14.out.1 h14.out.2.1 (by omega) (by omega))
                      rw [show decide (told2 = told2) = true from decide_eq_true rfl] at HSM2
                      obtain ⟨y2a, y2c, rfl, -⟩ := h14.out.1.open
                      clear h14 HLS2
                      go_wp2_with fail
                      refine (HSM2.out).mono ?_
                      rintro e w15 ⟨rfl, hb⟩
                      have HB15 := Lib.hid (HB14.out.trans (hb.mono HB14.out.size))
                      clear hb HSM2
                      go_wp2_with fail
                      go_ret
                      exact ⟨rfl, HB15.out⟩
                  · have HDN := Lib.hid hdown
                    clear hdown HH2
                    by_cases hlt2 : i2 < NB
                    · have d3 : decide ((i2 : Int) < (NB : Int)) = true := decide_eq_true (by omega)
                      have d3n : decide (i2 < NB) = true := decide_eq_true (by omega)
                      obtain ⟨hkl, hon⟩ := HDN.out.on
                      have HON := Lib.hid hon
                      have q1 : decide ((x.NL : Int) ≤ (k : Int)) = false := decide_eq_false (by omega)
                      have q2 : decide (x.NL ≤ k) = false := decide_eq_false (by omega)
                      clear hon HDN hkl
                      go_wp2_with fail
                      refine (HON.out).mono ?_
                      rintro e w20 ⟨rfl, h20⟩
                      have HON2 := Lib.hid h20.out
                      clear h20 HON
                      go_wp2_with fail
                      refine (HON2.out).mono ?_
                      rintro e w21 ⟨rfl, h21⟩
                      have HH3 := Lib.hid h21.out
                      clear h21 HON2
                      go_wp2_with fail
                      go_roundw
                      case rel => exact ⟨k + 1, i2, ob2, mb2, told2, ta2, tc2, by omega, by omega, by go_num, rfl, rfl, rfl, rfl, HH3⟩
                      case measure => simp [intOf]; omega
                    · have d3 : decide ((i2 : Int) < (NB : Int)) = false := decide_eq_false (by omega)
                      have d3n : decide (i2 < NB) = false := decide_eq_false (by omega)
                      obtain ⟨hkl, hon⟩ := HDN.out.on
                      have HON := Lib.hid hon
                      have q1 : decide ((x.NL : Int) ≤ (k : Int)) = false := decide_eq_false (by omega)
                      have q2 : decide (x.NL ≤ k) = false := decide_eq_false (by omega)
                      clear hon HDN hkl
                      go_wp2_with fail
                      refine (HON.out).mono ?_
                      rintro e w20 ⟨rfl, h20⟩
                      have HON2 := Lib.hid h20.out
                      clear h20 HON
                      go_wp2_with fail
                      refine (HON2.out).mono ?_
                      rintro e w21 ⟨rfl, h21⟩
                      have HH3 := Lib.hid h21.out
                      clear h21 HON2
                      go_wp2_with fail
                      go_roundw
                      case rel => exact ⟨k + 1, i2, ob2, mb2, told2, ta2, tc2, by omega, by omega, by go_num, rfl, rfl, rfl, rfl, HH3⟩
                      case measure => simp [intOf]; omega
              · obtain ⟨a', c', w8', hrun, hh⟩ := HBB.out rfl
                have HRUN := Lib.hid hh.out.1
                have HT8 := Lib.hid (hh.out.2 _ _ HYN.out HT7.out)
                obtain ⟨y3a, y3c, e3, hcl⟩ := HT7.out.open
                obtain ⟨by3, offy, e4, hby, hcy⟩ := hcl.out told.length (by simp)
                injection e3 with e5 e6 e7
                subst e5
                subst e4
                rw [show (told ++ [mb])[told.length]'(by simp) = mb by simp] at hcy
                have d2' : (((told ++ [mb]).length : Nat) : Int) = (told.length : Int) + 1 := by simp
                have d5 : told.length < (told ++ [mb]).length := by simp
                have d6 : (0 : Int) ≤ (told.length : Int) := by omega
                have HD5 := Lib.hid d5
                have htl : told.length ≤ 30 := by omega
                clear HA HBB hh hcl hby e6 e7 HYN
                rw [List.length_append, List.length_singleton] at hTl HT8 d5 ⊢
                go_wp2_with (refine wpList_append_run rfl _ _ 30 30 rfl _ _ rfl rfl hrun ?_)
                have HTY := Lib.hid HRUN.out.ts
                have HSM := Lib.hid (same6_any HT8.out HTY.out.1 (by have := HTY.out.2.1; omega) (by have := HTY.out.2.1; omega))
                rw [show decide (told ++ [mb] = told ++ [mb]) = true from decide_eq_true rfl] at HSM
                clear HTY
                go_wp2_with fail
                refine (HSM.out).mono ?_
                rintro e w8 ⟨rfl, hb⟩
                have HRUN8 := Lib.hid (HRUN.out.below hb)
                clear hb HSM HRUN HT8
                go_wp2_with fail

                go_loopw [10, 14, 7, 8, 9] (fun iv ev tv mv ov wr => ∃ (i : Nat) (told : List (List UInt8)) (ta : Option Addr) (tc : Nat) (mb : List UInt8) (ob : Bool) (E : Int), i ≤ NB ∧ iv = .int .i64 (i : Int) ∧ ev = .int .i64 E ∧ tv = .slice ta told.length tc ∧ mv = .string (Mt.str mb) ∧ ov = .bool ob ∧ Hid ((E = 0 ∧ ob = false ∧ RunP w wr x k i (.slice ta told.length tc) told J Q) ∨ (E = 10 ∧ DownP w wr x k i (.slice ta told.length tc) told ob mb))) (fun iv _ _ _ _ _ => NB - (intOf iv).toNat)
                case atStart => exact ⟨i, told ++ [mb], a', c', mb, false, 0, hi, rfl, rfl, by rw [List.length_append]; rfl, rfl, rfl, Lib.hid (.inl ⟨rfl, rfl, by rw [List.length_append]; exact HRUN8.out⟩)⟩
                case round =>
                  obtain ⟨i2, told2, ta2, tc2, mb2, ob2, E, hi2, rfl, rfl, rfl, rfl, rfl, HH2⟩ := hrel
                  rcases HH2.out with ⟨rfl, rfl, hrun⟩ | ⟨rfl, hdown⟩
                  · have HRUN2 := Lib.hid hrun
                    clear hrun HH2
                    by_cases hlt2 : i2 < NB
                    · obtain ⟨b0, off0, e0, hbl0, hc0⟩ := HT0.out i2 (by rw [HNB.out]; exact hlt2)
                      obtain ⟨s0, hs0⟩ : ∃ s, L0[i2]'(by rw [HNB.out]; exact hlt2) = s := ⟨_, rfl⟩
                      rw [hs0] at hc0
                      have hcc := (HRUN2.out.ts.2.2.cell (p := ⟨b0, off0 + i2, none⟩) hbl0).trans hc0
                      have HC := Lib.hid (fun u => cut6_any s0 300 u (by rw [← hs0]; exact HL0.out _ (List.getElem_mem _)) (by omega))
                      have d3 : decide ((i2 : Int) < (NB : Int)) = true := decide_eq_true (by omega)
                      have d3n : decide (i2 < NB) = true := decide_eq_true (by omega)
                      have d4 : (0 : Int) ≤ (i2 : Int) := by omega
                      have HAP := Lib.hid (fun b hb => HRUN2.out.append hk8 (by omega) b hb)
                      subst e0
                      clear hc0 hs0 HRUN2
                      go_wp2_with fail
                      refine (HC.out _).mono ?_
                      rintro e w10 ⟨rfl, rfl⟩
                      have HAP2 := Lib.hid (HAP.out (s0.take 300) (by rw [List.length_take]; omega))
                      generalize s0.take 300 = bb at *
                      clear hcc HC HAP
                      go_wp2_with fail
                      refine (HAP2.out).mono ?_
                      rintro e w11 ⟨E, rfl, h11⟩
                      have HAP3 := Lib.hid h11.out
                      clear h11 HAP2
                      go_wp2_with fail
                      refine (HAP3.out).mono ?_
                      rintro e w12 ⟨rfl, h12⟩
                      rcases h12.out with ⟨rfl, h13⟩ | ⟨rfl, a', c', w3, hrun, h13⟩ | ⟨rfl, h13⟩
                      · have HN := Lib.hid h13
                        clear h12 h13 HAP3
                        go_wp2_with fail
                        go_roundw
                        case rel => exact ⟨i2 + 1, told2, ta2, tc2, mb2, false, 0, by omega, by go_num, rfl, rfl, rfl, rfl, Lib.hid (.inl ⟨rfl, rfl, HN.out⟩)⟩
                        case measure => simp [intOf]; omega
                      · clear h12 HAP3
                        go_wp2_with (refine wpList_append_run rfl _ _ 30 30 rfl _ _ rfl rfl hrun ?_)
                        go_roundw
                        case rel => exact ⟨i2 + 1, told2 ++ [bb], a', c', mb2, false, 0, by omega, by go_num, rfl, by rw [List.length_append]; rfl, rfl, rfl, Lib.hid (.inl ⟨rfl, rfl, by rw [List.length_append]; exact h13.out⟩)⟩
                        case measure => simp [intOf]; omega
                      · have HN := Lib.hid h13
                        clear h12 h13 HAP3
                        go_wp2_with fail
                        go_roundw
                        case rel => exact ⟨i2 + 1, told2, ta2, tc2, bb, true, 10, by omega, by go_num, rfl, rfl, rfl, rfl, Lib.hid (.inr ⟨rfl, HN.out⟩)⟩
                        case measure => simp [intOf]; omega
                    · have d3 : decide ((i2 : Int) < (NB : Int)) = false := decide_eq_false (by omega)
                      have d3n : decide (i2 < NB) = false := decide_eq_false (by omega)
                      have HLS := Lib.hid (HRUN2.out.last hk8)
                      have hts := HRUN2.out.ts.2.1
                      clear HRUN2
                      go_wp2_with fail
                      refine (HLS.out).mono ?_
                      rintro e w13 ⟨rfl, h13⟩
                      have HLS2 := Lib.hid h13.out
                      clear h13 HLS
                      go_wp2_with fail
                      refine (HLS2.out).mono ?_
                      rintro e w14 ⟨y2, J2, rfl, h14⟩
                      have HB14 := Lib.hid h14.out.2.2
                      have HSM2 := Lib.hid (same6_any h14.out.1 h14.out.2.1 (by omega) (by omega))
                      rw [show decide (told2 = told2) = true from decide_eq_true rfl] at HSM2
                      obtain ⟨y2a, y2c, rfl, -⟩ := h14.out.1.open
                      clear h14 HLS2
                      go_wp2_with fail
                      refine (HSM2.out).mono ?_
                      rintro e w15 ⟨rfl, hb⟩
                      have HB15 := Lib.hid (HB14.out.trans (hb.mono HB14.out.size))
                      clear hb HSM2
                      go_wp2_with fail
                      go_ret
                      exact ⟨rfl, HB15.out⟩
                  · have HDN := Lib.hid hdown
                    clear hdown HH2
                    by_cases hlt2 : i2 < NB
                    · have d3 : decide ((i2 : Int) < (NB : Int)) = true := decide_eq_true (by omega)
                      have d3n : decide (i2 < NB) = true := decide_eq_true (by omega)
                      obtain ⟨hkl, hon⟩ := HDN.out.on
                      have HON := Lib.hid hon
                      have q1 : decide ((x.NL : Int) ≤ (k : Int)) = false := decide_eq_false (by omega)
                      have q2 : decide (x.NL ≤ k) = false := decide_eq_false (by omega)
                      clear hon HDN hkl
                      go_wp2_with fail
                      refine (HON.out).mono ?_
                      rintro e w20 ⟨rfl, h20⟩
                      have HON2 := Lib.hid h20.out
                      clear h20 HON
                      go_wp2_with fail
                      refine (HON2.out).mono ?_
                      rintro e w21 ⟨rfl, h21⟩
                      have HH3 := Lib.hid h21.out
                      clear h21 HON2
                      go_wp2_with fail
                      go_roundw
                      case rel => exact ⟨k + 1, i2, ob2, mb2, told2, ta2, tc2, by omega, by omega, by go_num, rfl, rfl, rfl, rfl, HH3⟩
                      case measure => simp [intOf]; omega
                    · have d3 : decide ((i2 : Int) < (NB : Int)) = false := decide_eq_false (by omega)
                      have d3n : decide (i2 < NB) = false := decide_eq_false (by omega)
                      obtain ⟨hkl, hon⟩ := HDN.out.on
                      have HON := Lib.hid hon
                      have q1 : decide ((x.NL : Int) ≤ (k : Int)) = false := decide_eq_false (by omega)
                      have q2 : decide (x.NL ≤ k) = false := decide_eq_false (by omega)
                      clear hon HDN hkl
                      go_wp2_with fail
                      refine (HON.out).mono ?_
                      rintro e w20 ⟨rfl, h20⟩
                      have HON2 := Lib.hid h20.out
                      clear h20 HON
                      go_wp2_with fail
                      refine (HON2.out).mono ?_
                      rintro e w21 ⟨rfl, h21⟩
                      have HH3 := Lib.hid h21.out
                      clear h21 HON2
                      go_wp2_with fail
                      go_roundw
                      case rel => exact ⟨k + 1, i2, ob2, mb2, told2, ta2, tc2, by omega, by omega, by go_num, rfl, rfl, rfl, rfl, HH3⟩
                      case measure => simp [intOf]; omega
          · obtain rfl : oe = 10 := HOE.out.symm.trans e1
            have HDN := Lib.hid hD
            clear HOE HPJ HPQ HM hD e1 e3 HO2 HR6 HT7
            obtain ⟨hkl, hon⟩ := HDN.out.on
            have HON := Lib.hid hon
            have q1 : decide ((x.NL : Int) ≤ (k : Int)) = false := decide_eq_false (by omega)
            have q2 : decide (x.NL ≤ k) = false := decide_eq_false (by omega)
            clear hon HDN hkl
            go_wp2_with fail
            refine (HON.out).mono ?_
            rintro e w20 ⟨rfl, h20⟩
            have HON2 := Lib.hid h20.out
            clear h20 HON
            go_wp2_with fail
            refine (HON2.out).mono ?_
            rintro e w21 ⟨rfl, h21⟩
            have HH3 := Lib.hid h21.out
            clear h21 HON2
            go_wp2_with fail
            go_roundw
            case rel => exact ⟨k + 1, i, ob, mb, told, ta, tc, by omega, by omega, by go_num, rfl, rfl, rfl, rfl, HH3⟩
            case measure => simp [intOf]; omega
      · obtain rfl : k = x.NL := by omega
        have d3 : decide ((x.NL : Int) < (x.NL : Int)) = false := decide_eq_false (by omega)
        have d3n : decide (x.NL < x.NL) = false := decide_eq_false (by omega)
        have HO := Lib.hid HH.out.plain
        clear hlt HH
        obtain ⟨g2, t2, d2, ho⟩ := HO.out
        have HO2 := Lib.hid ho
        have HOP := Lib.hid (ho.open hk8 hi30)
        clear ho HO
        go_wp2_with fail
        refine (HOP.out).mono ?_
        rintro e w5 ⟨y, J, rfl, h5⟩
        have HOPb := Lib.hid h5.out.2.2
        have HYN := Lib.hid h5.out.2.1
        obtain ⟨ya, yc, rfl, -⟩ := h5.out.1.open
        clear h5 HOP
        go_wp2_with fail
        refine (HOPb.out).mono ?_
        rintro e w6 ⟨z, Q, sl, g', rfl, h6⟩
        obtain ⟨k1, k2, k3, k4, k5⟩ := h6.out
        have HR6 := Lib.hid k1
        have HS6 := Lib.hid k2
        have HP6 := Lib.hid k3
        have HT6 := Lib.hid k4
        have HB6 := Lib.hid k5
        clear h6 HOPb k1 k2 k3 k4 k5
        obtain ⟨oe, hoe⟩ : ∃ oe, Mt.opE d2 = oe := ⟨_, rfl⟩
        obtain ⟨pj, hpj⟩ : ∃ p, Option.map (fun _ => (⟨J, 0, none⟩ : Addr)) (Mt.opJ d2) = p := ⟨_, rfl⟩
        obtain ⟨pq, hpq⟩ : ∃ p, Option.map (fun _ => (⟨Q, 0, none⟩ : Addr)) (Mt.opJ d2) = p := ⟨_, rfl⟩
        obtain ⟨m, hm⟩ : ∃ m, (Mt.opL d2).length = m := ⟨_, rfl⟩
        rw [hoe, hpj, hpq, hm]
        rw [hm] at HT6 HYN
        have HOE := Lib.hid hoe
        have HPJ := Lib.hid hpj
        have HPQ := Lib.hid hpq
        have HM := Lib.hid hm
        clear hoe hpj hpq hm
        have HMX := Lib.hid (rmixed_any HS6.out.isR HO2.out.2.2.2.1.torn (by have := HO2.out.2.2.2.2.1; omega))
        rw [HR6.out] at HMX
        go_wp2_with fail
        refine (HMX.out).mono ?_
        rintro e w7 ⟨bm', rfl, hbm', hb⟩
        have HS7 := Lib.hid (HS6.out.below hb)
        have HP7 := Lib.hid (HP6.out.below hb)
        have HT7 := Lib.hid (HT6.out.below hb)
        have HB7 := Lib.hid (HB6.out.trans (hb.mono HB6.out.size))
        clear hb HS6 HP6 HT6 HB6 HMX
        cases bm' with
        | true =>
          clear hbm'
          go_wp2_with fail
          go_ret
          exact ⟨rfl, HB7.out⟩
        | false =>
          have hway := HO2.out.way hk8 hi30 HR6.out HS7.out HP7.out HB7.out (hbm'.1 rfl)
          clear hbm' HS7 HP7
          rcases hway with ⟨T, hM, e1, e2, ⟨jj, e3⟩, hTl, hA, hBb⟩ | ⟨e1, e3, hD⟩
          · obtain rfl : oe = 0 := HOE.out.symm.trans e1
            obtain rfl : pj = some ⟨J, 0, none⟩ := by rw [← HPJ.out, e3]; rfl
            obtain rfl : pq = some ⟨Q, 0, none⟩ := by rw [← HPQ.out, e3]; rfl
            obtain rfl : m = T.length := by rw [← HM.out, e2]
            rw [e2] at HT7
            have HA := Lib.hid hA
            have HBB := Lib.hid hBb
            clear HOE HPJ HPQ HM hA hBb e1 e2 e3 HO2 HR6
            cases ob with
            | false =>
              obtain rfl : T = told := by
                rcases hM with h | ⟨h, _⟩
                · exact h
                · cases h
              have HRUN := Lib.hid (HA.out rfl)
              clear HA HBB hM
              have HTY := Lib.hid HRUN.out.ts
              have HSM := Lib.hid (same6_any HT7.out HTY.out.1 (by have := HTY.out.2.1; omega) (by have := HTY.out.2.1; omega))
              rw [show decide (T = T) = true from decide_eq_true rfl] at HSM
              clear HTY
              go_wp2_with fail
              refine (HSM.out).mono ?_
              rintro e w8 ⟨rfl, hb⟩
              have HRUN8 := Lib.hid (HRUN.out.below hb)
              clear hb HSM HRUN HT7
              go_wp2_with fail

              go_loopw [10, 14, 7, 8, 9] (fun iv ev tv mv ov wr => ∃ (i : Nat) (told : List (List UInt8)) (ta : Option Addr) (tc : Nat) (mb : List UInt8) (ob : Bool) (E : Int), i ≤ NB ∧ iv = .int .i64 (i : Int) ∧ ev = .int .i64 E ∧ tv = .slice ta told.length tc ∧ mv = .string (Mt.str mb) ∧ ov = .bool ob ∧ Hid ((E = 0 ∧ ob = false ∧ RunP w wr x x.NL i (.slice ta told.length tc) told J Q) ∨ (E = 10 ∧ DownP w wr x x.NL i (.slice ta told.length tc) told ob mb))) (fun iv _ _ _ _ _ => NB - (intOf iv).toNat)
              case atStart => exact ⟨i, T, ta, tc, mb, false, 0, hi, rfl, rfl, rfl, rfl, rfl, Lib.hid (.inl ⟨rfl, rfl, HRUN8.out⟩)⟩
              case round =>
                obtain ⟨i2, told2, ta2, tc2, mb2, ob2, E, hi2, rfl, rfl, rfl, rfl, rfl, HH2⟩ := hrel
                rcases HH2.out with ⟨rfl, rfl, hrun⟩ | ⟨rfl, hdown⟩
                · have HRUN2 := Lib.hid hrun
                  clear hrun HH2
                  by_cases hlt2 : i2 < NB
                  · obtain ⟨b0, off0, e0, hbl0, hc0⟩ := HT0.out i2 (by rw [HNB.out]; exact hlt2)
                    obtain ⟨s0, hs0⟩ : ∃ s, L0[i2]'(by rw [HNB.out]; exact hlt2) = s := ⟨_, rfl⟩
                    rw [hs0] at hc0
                    have hcc := (HRUN2.out.ts.2.2.cell (p := ⟨b0, off0 + i2, none⟩) hbl0).trans hc0
                    have HC := Lib.hid (fun u => cut6_any s0 300 u (by rw [← hs0]; exact HL0.out _ (List.getElem_mem _)) (by omega))
                    have d3 : decide ((i2 : Int) < (NB : Int)) = true := decide_eq_true (by omega)
                    have d3n : decide (i2 < NB) = true := decide_eq_true (by omega)
                    have d4 : (0 : Int) ≤ (i2 : Int) := by omega
                    have HAP := Lib.hid (fun b hb => HRUN2.out.append hk8 (by omega) b hb)
                    subst e0
                    clear hc0 hs0 HRUN2
                    go_wp2_with fail
                    refine (HC.out _).mono ?_
                    rintro e w10 ⟨rfl, rfl⟩
                    have HAP2 := Lib.hid (HAP.out (s0.take 300) (by rw [List.length_take]; omega))
                    generalize s0.take 300 = bb at *
                    clear hcc HC HAP
                    go_wp2_with fail
                    refine (HAP2.out).mono ?_
                    rintro e w11 ⟨E, rfl, h11⟩
                    have HAP3 := Lib.hid h11.out
                    clear h11 HAP2
                    go_wp2_with fail
                    refine (HAP3.out).mono ?_
                    rintro e w12 ⟨rfl, h12⟩
                    rcases h12.out with ⟨rfl, h13⟩ | ⟨rfl, a', c', w3, hrun, h13⟩ | ⟨rfl, h13⟩
                    · have HN := Lib.hid h13
                      clear h12 h13 HAP3
                      go_wp2_with fail
                      go_roundw
                      case rel => exact ⟨i2 + 1, told2, ta2, tc2, mb2, false, 0, by omega, by go_num, rfl, rfl, rfl, rfl, Lib.hid (.inl ⟨rfl, rfl, HN.out⟩)⟩
                      case measure => simp [intOf]; omega
                    · clear h12 HAP3
                      go_wp2_with (refine wpList_append_run rfl _ _ 30 30 rfl _ _ rfl rfl hrun ?_)
                      go_roundw
                      case rel => exact ⟨i2 + 1, told2 ++ [bb], a', c', mb2, false, 0, by omega, by go_num, rfl, by rw [List.length_append]; rfl, rfl, rfl, Lib.hid (.inl ⟨rfl, rfl, by rw [List.length_append]; exact h13.out⟩)⟩
                      case measure => simp [intOf]; omega
                    · have HN := Lib.hid h13
                      clear h12 h13 HAP3
                      go_wp2_with fail
                      go_roundw
                      case rel => exact ⟨i2 + 1, told2, ta2, tc2, bb, true, 10, by omega, by go_num, rfl, rfl, rfl, rfl, Lib.hid (.inr ⟨rfl, HN.out⟩)⟩
                      case measure => simp [intOf]; omega
                  · have d3 : decide ((i2 : Int) < (NB : Int)) = false := decide_eq_false (by omega)
                    have d3n : decide (i2 < NB) = false := decide_eq_false (by omega)
                    have HLS := Lib.hid (HRUN2.out.last hk8)
                    have hts := HRUN2.out.ts.2.1
                    clear HRUN2
                    go_wp2_with fail
                    refine (HLS.out).mono ?_
                    rintro e w13 ⟨rfl, h13⟩
                    have HLS2 := Lib.hid h13.out
                    clear h13 HLS
                    go_wp2_with fail
                    refine (HLS2.out).mono ?_
                    rintro e w14 ⟨y2, J2, rfl, h14⟩
                    have HB14 := Lib.hid h14.out.2.2
                    have HSM2 := Lib.hid (same6_any h14.out.1 h14.out.2.1 (by omega) (by omega))
                    rw [show decide (told2 = told2) = true from decide_eq_true rfl] at HSM2
                    obtain ⟨y2a, y2c, rfl, -⟩ := h14.out.1.open
                    clear h14 HLS2
                    go_wp2_with fail
                    refine (HSM2.out).mono ?_
                    rintro e w15 ⟨rfl, hb⟩
                    have HB15 := Lib.hid (HB14.out.trans (hb.mono HB14.out.size))
                    clear hb HSM2
                    go_wp2_with fail
                    go_ret
                    exact ⟨rfl, HB15.out⟩
                · have HDN := Lib.hid hdown
                  clear hdown HH2
                  by_cases hlt2 : i2 < NB
                  · have d3 : decide ((i2 : Int) < (NB : Int)) = true := decide_eq_true (by omega)
                    have d3n : decide (i2 < NB) = true := decide_eq_true (by omega)
                    obtain ⟨hkl, hon⟩ := HDN.out.on
                    exact absurd hkl (Nat.lt_irrefl _)
                  · have d3 : decide ((i2 : Int) < (NB : Int)) = false := decide_eq_false (by omega)
                    have d3n : decide (i2 < NB) = false := decide_eq_false (by omega)
                    obtain ⟨hkl, hon⟩ := HDN.out.on
                    exact absurd hkl (Nat.lt_irrefl _)
            | true =>
              rcases hM with rfl | ⟨-, rfl⟩
              · have HRUN := Lib.hid (HA.out rfl)
                clear HA HBB
                have d2' : ((T.length : Int) == (T.length : Int) + 1) = false := beq_eq_false_iff_ne.2 (by omega)
                have HTY := Lib.hid HRUN.out.ts
                have HSM := Lib.hid (same6_any HT7.out HTY.out.1 (by have := HTY.out.2.1; omega) (by have := HTY.out.2.1; omega))
                rw [show decide (T = T) = true from decide_eq_true rfl] at HSM
                clear HTY
                go_wp2_with fail
                refine (HSM.out).mono ?_
                rintro e w8 ⟨rfl, hb⟩
                have HRUN8 := Lib.hid (HRUN.out.below hb)
                clear hb HSM HRUN HT7
                go_wp2_with fail

                go_loopw [10, 14, 7, 8, 9] (fun iv ev tv mv ov wr => ∃ (i : Nat) (told : List (List UInt8)) (ta : Option Addr) (tc : Nat) (mb : List UInt8) (ob : Bool) (E : Int), i ≤ NB ∧ iv = .int .i64 (i : Int) ∧ ev = .int .i64 E ∧ tv = .slice ta told.length tc ∧ mv = .string (Mt.str mb) ∧ ov = .bool ob ∧ Hid ((E = 0 ∧ ob = false ∧ RunP w wr x x.NL i (.slice ta told.length tc) told J Q) ∨ (E = 10 ∧ DownP w wr x x.NL i (.slice ta told.length tc) told ob mb))) (fun iv _ _ _ _ _ => NB - (intOf iv).toNat)
                case atStart => exact ⟨i, T, ta, tc, mb, false, 0, hi, rfl, rfl, rfl, rfl, rfl, Lib.hid (.inl ⟨rfl, rfl, HRUN8.out⟩)⟩
                case round =>
                  obtain ⟨i2, told2, ta2, tc2, mb2, ob2, E, hi2, rfl, rfl, rfl, rfl, rfl, HH2⟩ := hrel
                  rcases HH2.out with ⟨rfl, rfl, hrun⟩ | ⟨rfl, hdown⟩
                  · have HRUN2 := Lib.hid hrun
                    clear hrun HH2
                    by_cases hlt2 : i2 < NB
                    · obtain ⟨b0, off0, e0, hbl0, hc0⟩ := HT0.out i2 (by rw [HNB.out]; exact hlt2)
                      obtain ⟨s0, hs0⟩ : ∃ s, L0[i2]'(by rw [HNB.out]; exact hlt2) = s := ⟨_, rfl⟩
                      rw [hs0] at hc0
                      have hcc := (HRUN2.out.ts.2.2.cell (p := ⟨b0, off0 + i2, none⟩) hbl0).trans hc0
                      have HC := Lib.hid (fun u => cut6_any s0 300 u (by rw [← hs0]; exact HL0.out _ (List.getElem_mem _)) (by omega))
                      have d3 : decide ((i2 : Int) < (NB : Int)) = true := decide_eq_true (by omega)
                      have d3n : decide (i2 < NB) = true := decide_eq_true (by omega)
                      have d4 : (0 : Int) ≤ (i2 : Int) := by omega
                      have HAP := Lib.hid (fun b hb => HRUN2.out.append hk8 (by omega) b hb)
                      subst e0
                      clear hc0 hs0 HRUN2
                      go_wp2_with fail
                      refine (HC.out _).mono ?_
                      rintro e w10 ⟨rfl, rfl⟩
                      have HAP2 := Lib.hid (HAP.out (s0.take 300) (by rw [List.length_take]; omega))
                      generalize s0.take 300 = bb at *
                      clear hcc HC HAP
                      go_wp2_with fail
                      refine (HAP2.out).mono ?_
                      rintro e w11 ⟨E, rfl, h11⟩
                      have HAP3 := Lib.hid h11.out
                      clear h11 HAP2
                      go_wp2_with fail
                      refine (HAP3.out).mono ?_
                      rintro e w12 ⟨rfl, h12⟩
                      rcases h12.out with ⟨rfl, h13⟩ | ⟨rfl, a', c', w3, hrun, h13⟩ | ⟨rfl, h13⟩
                      · have HN := Lib.hid h13
                        clear h12 h13 HAP3
                        go_wp2_with fail
                        go_roundw
                        case rel => exact ⟨i2 + 1, told2, ta2, tc2, mb2, false, 0, by omega, by go_num, rfl, rfl, rfl, rfl, Lib.hid (.inl ⟨rfl, rfl, HN.out⟩)⟩
                        case measure => simp [intOf]; omega
                      · clear h12 HAP3
                        go_wp2_with (refine wpList_append_run rfl _ _ 30 30 rfl _ _ rfl rfl hrun ?_)
                        go_roundw
                        case rel => exact ⟨i2 + 1, told2 ++ [bb], a', c', mb2, false, 0, by omega, by go_num, rfl, by rw [List.length_append]; rfl, rfl, rfl, Lib.hid (.inl ⟨rfl, rfl, by rw [List.length_append]; exact h13.out⟩)⟩
                        case measure => simp [intOf]; omega
                      · have HN := Lib.hid h13
                        clear h12 h13 HAP3
                        go_wp2_with fail
                        go_roundw
                        case rel => exact ⟨i2 + 1, told2, ta2, tc2, bb, true, 10, by omega, by go_num, rfl, rfl, rfl, rfl, Lib.hid (.inr ⟨rfl, HN.out⟩)⟩
                        case measure => simp [intOf]; omega
                    · have d3 : decide ((i2 : Int) < (NB : Int)) = false := decide_eq_false (by omega)
                      have d3n : decide (i2 < NB) = false := decide_eq_false (by omega)
                      have HLS := Lib.hid (HRUN2.out.last hk8)
                      have hts := HRUN2.out.ts.2.1
                      clear HRUN2
                      go_wp2_with fail
                      refine (HLS.out).mono ?_
                      rintro e w13 ⟨rfl, h13⟩
                      have HLS2 := Lib.hid h13.out
                      clear h13 HLS
                      go_wp2_with fail
                      refine (HLS2.out).mono ?_
                      rintro e w14 ⟨y2, J2, rfl, h14⟩
                      have HB14 := Lib.hid h14.out.2.2
                      have HSM2 := Lib.hid (same6_any h14.out.1 h14.out.2.1 (by omega) (by omega))
                      rw [show decide (told2 = told2) = true from decide_eq_true rfl] at HSM2
                      obtain ⟨y2a, y2c, rfl, -⟩ := h14.out.1.open
                      clear h14 HLS2
                      go_wp2_with fail
                      refine (HSM2.out).mono ?_
                      rintro e w15 ⟨rfl, hb⟩
                      have HB15 := Lib.hid (HB14.out.trans (hb.mono HB14.out.size))
                      clear hb HSM2
                      go_wp2_with fail
                      go_ret
                      exact ⟨rfl, HB15.out⟩
                  · have HDN := Lib.hid hdown
                    clear hdown HH2
                    by_cases hlt2 : i2 < NB
                    · have d3 : decide ((i2 : Int) < (NB : Int)) = true := decide_eq_true (by omega)
                      have d3n : decide (i2 < NB) = true := decide_eq_true (by omega)
                      obtain ⟨hkl, hon⟩ := HDN.out.on
                      exact absurd hkl (Nat.lt_irrefl _)
                    · have d3 : decide ((i2 : Int) < (NB : Int)) = false := decide_eq_false (by omega)
                      have d3n : decide (i2 < NB) = false := decide_eq_false (by omega)
                      obtain ⟨hkl, hon⟩ := HDN.out.on
                      exact absurd hkl (Nat.lt_irrefl _)
              · obtain ⟨a', c', w8', hrun, hh⟩ := HBB.out rfl
                have HRUN := Lib.hid hh.out.1
                have HT8 := Lib.hid (hh.out.2 _ _ HYN.out HT7.out)
                obtain ⟨y3a, y3c, e3, hcl⟩ := HT7.out.open
                obtain ⟨by3, offy, e4, hby, hcy⟩ := hcl.out told.length (by simp)
                injection e3 with e5 e6 e7
                subst e5
                subst e4
                rw [show (told ++ [mb])[told.length]'(by simp) = mb by simp] at hcy
                have d2' : (((told ++ [mb]).length : Nat) : Int) = (told.length : Int) + 1 := by simp
                have d5 : told.length < (told ++ [mb]).length := by simp
                have d6 : (0 : Int) ≤ (told.length : Int) := by omega
                have HD5 := Lib.hid d5
                have htl : told.length ≤ 30 := by omega
                clear HA HBB hh hcl hby e6 e7 HYN
                rw [List.length_append, List.length_singleton] at hTl HT8 d5 ⊢
                go_wp2_with (refine wpList_append_run rfl _ _ 30 30 rfl _ _ rfl rfl hrun ?_)
                have HTY := Lib.hid HRUN.out.ts
                have HSM := Lib.hid (same6_any HT8.out HTY.out.1 (by have := HTY.out.2.1; omega) (by have := HTY.out.2.1; omega))
                rw [show decide (told ++ [mb] = told ++ [mb]) = true from decide_eq_true rfl] at HSM
                clear HTY
                go_wp2_with fail
                refine (HSM.out).mono ?_
                rintro e w8 ⟨rfl, hb⟩
                have HRUN8 := Lib.hid (HRUN.out.below hb)
                clear hb HSM HRUN HT8
                go_wp2_with fail

                go_loopw [10, 14, 7, 8, 9] (fun iv ev tv mv ov wr => ∃ (i : Nat) (told : List (List UInt8)) (ta : Option Addr) (tc : Nat) (mb : List UInt8) (ob : Bool) (E : Int), i ≤ NB ∧ iv = .int .i64 (i : Int) ∧ ev = .int .i64 E ∧ tv = .slice ta told.length tc ∧ mv = .string (Mt.str mb) ∧ ov = .bool ob ∧ Hid ((E = 0 ∧ ob = false ∧ RunP w wr x x.NL i (.slice ta told.length tc) told J Q) ∨ (E = 10 ∧ DownP w wr x x.NL i (.slice ta told.length tc) told ob mb))) (fun iv _ _ _ _ _ => NB - (intOf iv).toNat)
                case atStart => exact ⟨i, told ++ [mb], a', c', mb, false, 0, hi, rfl, rfl, by rw [List.length_append]; rfl, rfl, rfl, Lib.hid (.inl ⟨rfl, rfl, by rw [List.length_append]; exact HRUN8.out⟩)⟩
                case round =>
                  obtain ⟨i2, told2, ta2, tc2, mb2, ob2, E, hi2, rfl, rfl, rfl, rfl, rfl, HH2⟩ := hrel
                  rcases HH2.out with ⟨rfl, rfl, hrun⟩ | ⟨rfl, hdown⟩
                  · have HRUN2 := Lib.hid hrun
                    clear hrun HH2
                    by_cases hlt2 : i2 < NB
                    · obtain ⟨b0, off0, e0, hbl0, hc0⟩ := HT0.out i2 (by rw [HNB.out]; exact hlt2)
                      obtain ⟨s0, hs0⟩ : ∃ s, L0[i2]'(by rw [HNB.out]; exact hlt2) = s := ⟨_, rfl⟩
                      rw [hs0] at hc0
                      have hcc := (HRUN2.out.ts.2.2.cell (p := ⟨b0, off0 + i2, none⟩) hbl0).trans hc0
                      have HC := Lib.hid (fun u => cut6_any s0 300 u (by rw [← hs0]; exact HL0.out _ (List.getElem_mem _)) (by omega))
                      have d3 : decide ((i2 : Int) < (NB : Int)) = true := decide_eq_true (by omega)
                      have d3n : decide (i2 < NB) = true := decide_eq_true (by omega)
                      have d4 : (0 : Int) ≤ (i2 : Int) := by omega
                      have HAP := Lib.hid (fun b hb => HRUN2.out.append hk8 (by omega) b hb)
                      subst e0
                      clear hc0 hs0 HRUN2
                      go_wp2_with fail
                      refine (HC.out _).mono ?_
                      rintro e w10 ⟨rfl, rfl⟩
                      have HAP2 := Lib.hid (HAP.out (s0.take 300) (by rw [List.length_take]; omega))
                      generalize s0.take 300 = bb at *
                      clear hcc HC HAP
                      go_wp2_with fail
                      refine (HAP2.out).mono ?_
                      rintro e w11 ⟨E, rfl, h11⟩
                      have HAP3 := Lib.hid h11.out
                      clear h11 HAP2
                      go_wp2_with fail
                      refine (HAP3.out).mono ?_
                      rintro e w12 ⟨rfl, h12⟩
                      rcases h12.out with ⟨rfl, h13⟩ | ⟨rfl, a', c', w3, hrun, h13⟩ | ⟨rfl, h13⟩
                      · have HN := Lib.hid h13
                        clear h12 h13 HAP3
                        go_wp2_with fail
                        go_roundw
                        case rel => exact ⟨i2 + 1, told2, ta2, tc2, mb2, false, 0, by omega, by go_num, rfl, rfl, rfl, rfl, Lib.hid (.inl ⟨rfl, rfl, HN.out⟩)⟩
                        case measure => simp [intOf]; omega
                      · clear h12 HAP3
                        go_wp2_with (refine wpList_append_run rfl _ _ 30 30 rfl _ _ rfl rfl hrun ?_)
                        go_roundw
                        case rel => exact ⟨i2 + 1, told2 ++ [bb], a', c', mb2, false, 0, by omega, by go_num, rfl, by rw [List.length_append]; rfl, rfl, rfl, Lib.hid (.inl ⟨rfl, rfl, by rw [List.length_append]; exact h13.out⟩)⟩
                        case measure => simp [intOf]; omega
                      · have HN := Lib.hid h13
                        clear h12 h13 HAP3
                        go_wp2_with fail
                        go_roundw
                        case rel => exact ⟨i2 + 1, told2, ta2, tc2, bb, true, 10, by omega, by go_num, rfl, rfl, rfl, rfl, Lib.hid (.inr ⟨rfl, HN.out⟩)⟩
                        case measure => simp [intOf]; omega
                    · have d3 : decide ((i2 : Int) < (NB : Int)) = false := decide_eq_false (by omega)
                      have d3n : decide (i2 < NB) = false := decide_eq_false (by omega)
                      have HLS := Lib.hid (HRUN2.out.last hk8)
                      have hts := HRUN2.out.ts.2.1
                      clear HRUN2
                      go_wp2_with fail
                      refine (HLS.out).mono ?_
                      rintro e w13 ⟨rfl, h13⟩
                      have HLS2 := Lib.hid h13.out
                      clear h13 HLS
                      go_wp2_with fail
                      refine (HLS2.out).mono ?_
                      rintro e w14 ⟨y2, J2, rfl, h14⟩
                      have HB14 := Lib.hid h14.out.2.2
                      have HSM2 := Lib.hid (same6_any h14.out.1 h14.out.2.1 (by omega) (by omega))
                      rw [show decide (told2 = told2) = true from decide_eq_true rfl] at HSM2
                      obtain ⟨y2a, y2c, rfl, -⟩ := h14.out.1.open
                      clear h14 HLS2
                      go_wp2_with fail
                      refine (HSM2.out).mono ?_
                      rintro e w15 ⟨rfl, hb⟩
                      have HB15 := Lib.hid (HB14.out.trans (hb.mono HB14.out.size))
                      clear hb HSM2
                      go_wp2_with fail
                      go_ret
                      exact ⟨rfl, HB15.out⟩
                  · have HDN := Lib.hid hdown
                    clear hdown HH2
                    by_cases hlt2 : i2 < NB
                    · have d3 : decide ((i2 : Int) < (NB : Int)) = true := decide_eq_true (by omega)
                      have d3n : decide (i2 < NB) = true := decide_eq_true (by omega)
                      obtain ⟨hkl, hon⟩ := HDN.out.on
                      exact absurd hkl (Nat.lt_irrefl _)
                    · have d3 : decide ((i2 : Int) < (NB : Int)) = false := decide_eq_false (by omega)
                      have d3n : decide (i2 < NB) = false := decide_eq_false (by omega)
                      obtain ⟨hkl, hon⟩ := HDN.out.on
                      exact absurd hkl (Nat.lt_irrefl _)
          · obtain rfl : oe = 10 := HOE.out.symm.trans e1
            have HDN := Lib.hid hD
            clear HOE HPJ HPQ HM hD e1 e3 HO2 HR6 HT7
            obtain ⟨hkl, hon⟩ := HDN.out.on
            exact absurd hkl (Nat.lt_irrefl _)
end Go.Proofs.YtnioagojiipjlaaGreat
