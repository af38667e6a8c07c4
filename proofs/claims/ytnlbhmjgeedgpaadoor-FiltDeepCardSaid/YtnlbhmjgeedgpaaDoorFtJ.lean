/-
  What reading filters within filters comes to: inner, filter.
-/
import Derived.Test.YtnlbhmjgeedgpaaDoorFtI
set_option linter.unusedVariables false
set_option linter.unusedSimpArgs false
namespace Go.Proofs.YtnlbhmjgeedgpaaDoor
open Go.RowKit

theorem filtP_form {w w' : World} {B h : Nat} {R : Mt.PR} {e : Ending} (hP : FiltP w B h R e w') : ∃ (k : Int) (s1 s2 : ByteArray) (a1 : Option Addr) (n1 c1 : Nat) (a2 : Option Addr) (n2 c2 : Nat) (er : Int), e = .returned (.tuple #[.agg #[.int .i64 k, .string s1, .string s2, .slice a1 n1 c1, .slice a2 n2 c2], .int .i64 er]) := by
  obtain ⟨_, h⟩ := hP
  cases R with
  | error k => obtain ⟨rfl, _⟩ := h; exact ⟨_, _, _, _, _, _, _, _, _, _, rfl⟩
  | ok p => obtain ⟨f, m, x⟩ := p; obtain ⟨pa, pc, a, c, rfl, _⟩ := h; exact ⟨_, _, _, _, _, _, _, _, _, _, rfl⟩
theorem filtP_pass {w w4 w5 w6 : World} {B h h' g : Nat} {R : Mt.PR} {e : Ending} (hw : OnlyS [B] w w4) (hP : FiltP w4 B h R e w5) (hh : h ≤ h') (ho : OnlyS [g] w5 w6) (hg : w.heap.size ≤ g) (hgl : g < w4.heap.size) (hB : B < w.heap.size) : FiltP w B h' R e w6 := by
  obtain ⟨h1, h2⟩ := hP
  have hs := hw.size
  have hs2 := h1.size
  refine ⟨(hw.trans h1).thenBelow (ho.toBelow (by simpa using hg) (by omega)), ?_⟩
  cases R with
  | error k => exact h2
  | ok p =>
    obtain ⟨f, m, x⟩ := p
    obtain ⟨pa, pc, a, c, he, hf, hb⟩ := h2
    refine ⟨pa, pc, a, c, he, hf.keep (fun b hb _ => by omega) (fun b hb hl => ho.block b hl (by simp; omega)) hh, ?_⟩
    rw [ho.block B (lt_of_block hb) (by simp; omega)]
    exact hb
set_option maxRecDepth 100000 in
set_option maxHeartbeats 2000000 in
theorem inner10_any (d g : Nat) (hd : d ≤ 64) (hf : ReadsF (d + 1) g) (l : List UInt8) (n : Nat) (w : World) (B : Nat) (hl : l.length ≤ 4096) (hn : n ≤ 1000) (hB : IsRd w B l n) :
    Calls Tryd.prog 33 #[.pointer (some ⟨B, 0, none⟩), .int .i64 (d : Int)] w (FiltP w B (g + 1) (Mt.innerP (Mt.filtP g) n l)) := by
  obtain ⟨R, hR⟩ : ∃ R, Mt.innerP (Mt.filtP g) n l = R := ⟨_, rfl⟩
  rw [hR]
  have HF := Lib.hid hf
  have HBL := Lib.hid (lt_of_block hB)
  obtain ⟨w1, hw1⟩ : ∃ u, w.alloc (.cells #[.int .i64 0, .string ⟨#[]⟩, .string ⟨#[]⟩, .slice none 0 0, .slice none 0 0] 25) = u := ⟨_, rfl⟩
  have hg1 : w1.heap[w.heap.size]? = some (.cells #[.int .i64 0, .string ⟨#[]⟩, .string ⟨#[]⟩, .slice none 0 0, .slice none 0 0] 25) := by rw [← hw1]; exact heap_alloc_new w _
  have hb1 : Below w.heap.size w w1 := by rw [← hw1]; exact (Below.refl _ w).alloc (Nat.le_refl _) _
  have HD1 : (d : Int) + 1 = ((d + 1 : Nat) : Int) := by omega
  have HD := Lib.hid HD1
  have HG1 := Lib.hid hg1
  have HO1 : Hid (OnlyS [B] w w1) := Lib.hid (Below.onlyS hb1 (Nat.le_refl _))
  have HR1 : Hid (IsRd w1 B l n) := Lib.hid ((hb1.block B HBL.out).trans hB)
  have HRR := Lib.hid hR
  have HT1 := Lib.hid (take10_any 38 l n w1 B HR1.out)
  clear hf hB hg1 hb1 HD1 hR
  go_enter Tryd.func33, Tryd.ntmps33
  go_upto_region 1 with fail
  clear hw1
  go_wp2_with fail
  refine (HT1.out).mono ?_
  rintro e w2 ⟨rfl, ho2, hr2⟩
  have HO2 := Lib.hid (HO1.out.trans ho2)
  have HG2 := Lib.hid ((ho2.block _ (lt_of_block HG1.out) (by simp; have := HBL.out; omega)).trans HG1.out)
  have HR2 := Lib.hid hr2
  clear ho2 hr2 HG1 HO1 HR1
  cases h38 : Mt.nextIs 38 l with
  | true =>
    have HI : Hid (Mt.kidsP (Mt.filtP g) 0 n l.tail = R) := Lib.hid (by have := HRR.out; unfold Mt.innerP at this; rw [if_pos h38] at this; exact this)
    have HR2' : Hid (IsRd w2 B l.tail n) := Lib.hid (by have := HR2.out; unfold Mt.dropIs at this; rw [if_pos h38] at this; exact this)
    have HL := Lib.hid (list10_any d g hd HF.out 0 l.tail n w2 B (by rw [List.length_tail]; omega) hn HR2'.out)
    rw [HI.out] at HL
    clear h38
    go_wp2_with fail
    refine (HL.out).mono ?_
    rintro e w3 hP
    obtain ⟨k, s1, s2, a1, n1, c1, a2, n2, c2, er, rfl⟩ := filtP_form hP
    have HP := Lib.hid hP
    have HG3 := Lib.hid ((hP.1.block _ (lt_of_block HG2.out) (by simp; have := HBL.out; omega)).trans HG2.out)
    clear hP
    obtain ⟨⟨x0, x1, x2, x3, x4⟩, f0, f1, f2, f3, f4⟩ := box5F HG3.out
    go_wp2_with fail
    refine ret5 rfl w.heap.size _ _ _ _ _ _ rfl rfl rfl Tryd.underlying25 Tryd.szFilter HG3.out ?_
    intro w5 ho _
    exact filtP_pass HO2.out HP.out (Nat.le_refl _) ho (Nat.le_refl _) (lt_of_block HG2.out) HBL.out
  | false =>
    have HR2' : Hid (IsRd w2 B l n) := Lib.hid (by have := HR2.out; unfold Mt.dropIs at this; rw [if_neg (by rw [h38]; decide)] at this; exact this)
    have HI1 : Hid (Mt.innerP (Mt.filtP g) n l = if Mt.nextIs 124 l = true then Mt.kidsP (Mt.filtP g) 1 n l.tail
        else if Mt.nextIs 33 l = true then match Mt.filtP g n l.tail with
          | .error e => .error e
          | .ok (f, m, x) => .ok (.mk 2 [] [] [] [f], m, x)
        else match Mt.leafL l with
          | .error e => .error e
          | .ok (f, x) => .ok (f, n, x)) := Lib.hid (by unfold Mt.innerP; rw [if_neg (by rw [h38]; decide)]; rfl)
    have HT2 := Lib.hid (take10_any 124 l n w2 B HR2'.out)
    clear h38
    go_wp2_with fail
    refine (HT2.out).mono ?_
    rintro e w3 ⟨rfl, ho3, hr3⟩
    have HO3 := Lib.hid (HO2.out.trans ho3)
    have HG3 := Lib.hid ((ho3.block _ (lt_of_block HG2.out) (by simp; have := HBL.out; omega)).trans HG2.out)
    have HR3 := Lib.hid hr3
    clear ho3 hr3 HG2 HO2 HR2
    cases h124 : Mt.nextIs 124 l with
    | true =>
      have HI : Hid (Mt.kidsP (Mt.filtP g) 1 n l.tail = R) := Lib.hid (by have := HI1.out; rw [if_pos h124, HRR.out] at this; exact this.symm)
      have HR3' : Hid (IsRd w3 B l.tail n) := Lib.hid (by have := HR3.out; unfold Mt.dropIs at this; rw [if_pos h124] at this; exact this)
      have HL := Lib.hid (list10_any d g hd HF.out 1 l.tail n w3 B (by rw [List.length_tail]; omega) hn HR3'.out)
      rw [HI.out] at HL
      clear h124
      go_wp2_with fail
      refine (HL.out).mono ?_
      rintro e w4 hP
      obtain ⟨k, s1, s2, a1, n1, c1, a2, n2, c2, er, rfl⟩ := filtP_form hP
      have HP := Lib.hid hP
      have HG4 := Lib.hid ((hP.1.block _ (lt_of_block HG3.out) (by simp; have := HBL.out; omega)).trans HG3.out)
      clear hP
      obtain ⟨⟨x0, x1, x2, x3, x4⟩, f0, f1, f2, f3, f4⟩ := box5F HG4.out
      go_wp2_with fail
      refine ret5 rfl w.heap.size _ _ _ _ _ _ rfl rfl rfl Tryd.underlying25 Tryd.szFilter HG4.out ?_
      intro w5 ho _
      exact filtP_pass HO3.out HP.out (Nat.le_refl _) ho (Nat.le_refl _) (lt_of_block HG3.out) HBL.out
    | false =>
      have HR3' : Hid (IsRd w3 B l n) := Lib.hid (by have := HR3.out; unfold Mt.dropIs at this; rw [if_neg (by rw [h124]; decide)] at this; exact this)
      have HT3 := Lib.hid (take10_any 33 l n w3 B HR3'.out)
      have HI2 := Lib.hid (HI1.out)
      rw [if_neg (by rw [h124]; decide)] at HI2
      clear h124 HI1
      go_wp2_with fail
      refine (HT3.out).mono ?_
      rintro e w4 ⟨rfl, ho4, hr4⟩
      have HO4 := Lib.hid (HO3.out.trans ho4)
      have HG4 := Lib.hid ((ho4.block _ (lt_of_block HG3.out) (by simp; have := HBL.out; omega)).trans HG3.out)
      have HR4 := Lib.hid hr4
      clear ho4 hr4 HG3 HO3 HR3
      cases h33 : Mt.nextIs 33 l with
      | true =>
        have HR4' : Hid (IsRd w4 B l.tail n) := Lib.hid (by have := HR4.out; unfold Mt.dropIs at this; rw [if_pos h33] at this; exact this)
        have HC : Hid (Calls Tryd.prog 20 #[.pointer (some ⟨B, 0, none⟩), .int .i64 ((d : Int) + 1)] w4 (FiltP w4 B g (Mt.filtP g n l.tail))) := Lib.hid (by
          have := HF.out l.tail n w4 B (by rw [List.length_tail]; omega) hn HR4'.out
          rw [← HD.out] at this; exact this)
        have HI := Lib.hid (HI2.out)
        rw [if_pos h33] at HI
        clear h33 HI2
        cases hP : Mt.filtP g n l.tail with
        | error e0 =>
          have HN : Hid (R = .error e0) := Lib.hid (by have := HI.out; rw [HRR.out, hP] at this; exact this)
          rw [hP] at HC
          clear hP HI
          go_wp2_with fail
          refine (HC.out).mono ?_
          rintro e w5 ⟨ho5, rfl, hke⟩
          have hne : (((e0 : Nat) : Int) != 0) = true := by simp; exact hke
          have HO5 := Lib.hid (HO4.out.trans ho5)
          have HG5 := Lib.hid ((ho5.block _ (lt_of_block HG4.out) (by simp; have := HBL.out; omega)).trans HG4.out)
          have HKE := Lib.hid hke
          simp only [zeroF]
          clear ho5 hke
          go_upto_region 7 with fail
          have hb6 := (Below.refl w5.heap.size w5).alloc (Nat.le_refl _) (.cells #[.int .i64 0, .string ⟨#[]⟩, .string ⟨#[]⟩, .slice none 0 0, .slice none 0 0] 25)
          generalize w5.alloc (.cells #[.int .i64 0, .string ⟨#[]⟩, .string ⟨#[]⟩, .slice none 0 0, .slice none 0 0] 25) = w6 at *
          have HB6 := Lib.hid hb6
          have HG6 := Lib.hid ((hb6.block _ (lt_of_block HG5.out)).trans HG5.out)
          clear hb6
          obtain ⟨⟨x0, x1, x2, x3, x4⟩, f0, f1, f2, f3, f4⟩ := box5F HG6.out
          go_wp2_with fail
          refine ret5 rfl w.heap.size _ _ _ _ _ _ rfl rfl rfl Tryd.underlying25 Tryd.szFilter HG6.out ?_
          intro w7 ho _
          exact filtP_bad HN.out HKE.out ((HO5.out.then HB6.out).thenBelow (ho.toBelow (by simp) (Nat.le_trans HO5.out.size HB6.out.size)))
        | ok p =>
          obtain ⟨f, m, x⟩ := p
          have HN : Hid (R = .ok (.mk 2 [] [] [] [f], m, x)) := Lib.hid (by have := HI.out; rw [HRR.out, hP] at this; exact this)
          rw [hP] at HC
          clear hP HI
          go_wp2_with fail
          refine (HC.out).mono ?_
          rintro e w5 ⟨ho5, pa, pc, a4, c4, rfl, hfl, hB5⟩
          have HO5 := Lib.hid (HO4.out.trans ho5)
          have HO45 := Lib.hid ho5.size
          have HFL := Lib.hid hfl
          have HB5 := Lib.hid hB5
          have HG5 := Lib.hid ((ho5.block _ (lt_of_block HG4.out) (by simp; have := HBL.out; omega)).trans HG4.out)
          simp only [flV]
          clear ho5 hfl hB5
          go_upto_region 7 with fail
          have hb6 := (Below.refl w5.heap.size w5).alloc (Nat.le_refl _) (.cells #[.int .i64 f.kind, .string (Mt.str f.attr), .string (Mt.str f.value), .slice pa f.pcs.length pc, .slice a4 f.kids.length c4] 25)
          have h6 := heap_alloc_new w5 (.cells #[.int .i64 f.kind, .string (Mt.str f.attr), .string (Mt.str f.value), .slice pa f.pcs.length pc, .slice a4 f.kids.length c4] 25)
          generalize w5.alloc (.cells #[.int .i64 f.kind, .string (Mt.str f.attr), .string (Mt.str f.value), .slice pa f.pcs.length pc, .slice a4 f.kids.length c4] 25) = w6 at *
          have HB6 := Lib.hid hb6
          have H6 := Lib.hid h6
          have HG6 := Lib.hid ((hb6.block _ (lt_of_block HG5.out)).trans HG5.out)
          have HX6 := Lib.hid ((hb6.block _ (lt_of_block HB5.out)).trans HB5.out)
          clear hb6 h6
          obtain ⟨⟨y0, y1, y2, y3, y4⟩, -⟩ := box5F H6.out
          obtain ⟨⟨x0, x1, x2, x3, x4⟩, f0, f1, f2, f3, f4⟩ := box5F HG6.out
          have hb7 := (Below.refl w6.heap.size w6).alloc (Nat.le_refl _) (.cells #[.int .i64 f.kind, .string (Mt.str f.attr), .string (Mt.str f.value), .slice pa f.pcs.length pc, .slice a4 f.kids.length c4] 25)
          have h7 := heap_alloc_new w6 (.cells #[.int .i64 f.kind, .string (Mt.str f.attr), .string (Mt.str f.value), .slice pa f.pcs.length pc, .slice a4 f.kids.length c4] 25)
          obtain ⟨⟨p0, p1, p2, p3, p4⟩, q0, q1, q2, q3, q4⟩ := box5F ((hb7.block _ (lt_of_block HG6.out)).trans HG6.out)
          obtain ⟨w7, hw7⟩ : ∃ u, w6.alloc (.cells #[.int .i64 f.kind, .string (Mt.str f.attr), .string (Mt.str f.value), .slice pa f.pcs.length pc, .slice a4 f.kids.length c4] 25) = u := ⟨_, rfl⟩
          rw [hw7] at hb7 h7
          clear x0 x1 x2 x3 x4 f0 f1 f2 f3 f4
          have HB7 := Lib.hid hb7
          have H7 := Lib.hid h7
          have HG7 := Lib.hid ((hb7.block _ (lt_of_block HG6.out)).trans HG6.out)
          have HX7 := Lib.hid ((hb7.block _ (lt_of_block HX6.out)).trans HX6.out)
          have HW7 := Lib.hid hw7
          clear hb7 h7 hw7
          go_wp2_with fail
          rw [HW7.out]
          refine ret5 rfl w.heap.size _ _ _ _ _ _ rfl rfl rfl Tryd.underlying25 Tryd.szFilter HG7.out ?_
          intro w8 ho _
          have hB := HBL.out
          have h4 := HO4.out.size
          have h5 := HB6.out.size
          have h45 := HO45.out
          have h67 := HB7.out.size
          have hbel : Below w.heap.size w5 w8 := (HB6.out.mono HO5.out.size).trans ((HB7.out.mono (by have := HO5.out.size; omega)).trans (ho.toBelow (by simp) (by have := HO5.out.size; omega)))
          have hgw4 := lt_of_block HG4.out
          have h7w := ho.block w6.heap.size (lt_of_block H7.out) (by simp; omega)
          have hrow := h7w.trans H7.out
          refine filtP_good (f := .mk 2 [] [] [] [f]) (pa := none) (pc := 0) (a := some ⟨w6.heap.size, 0, none⟩) (c := 1) HN.out (HO5.out.thenBelow hbel) ?_ ?_
          · refine ⟨none, 0, _, 1, rfl, ⟨Nat.zero_le _, Nat.zero_le _, Nat.zero_le _, (fun p hp => nomatch hp), by show (1 : Nat) ≤ _; decide⟩, .inl rfl, .inr ⟨w6.heap.size, 0, rfl, by omega, fun i hi => ?_⟩⟩
            obtain rfl : i = 0 := by have : i < 1 := hi; omega
            obtain ⟨⟨t0, t1, t2, t3, t4⟩, -⟩ := box5F hrow
            refine ⟨_, _, _, _, _, t0, t1, t2, t3, t4, ?_⟩
            exact ((HFL.out.below HB6.out).below HB7.out).keep (fun b hb _ => by omega) (fun b hb hl => ho.block b hl (by simp; omega)) (Nat.le_refl _)
          · rw [ho.block B (lt_of_block HX7.out) (by simp; omega)]
            exact HX7.out
      | false =>
        have HR4' : Hid (IsRd w4 B l n) := Lib.hid (by have := HR4.out; unfold Mt.dropIs at this; rw [if_neg (by rw [h33]; decide)] at this; exact this)
        have HI : Hid (Mt.leafR n l = R) := Lib.hid (by have := HI2.out; rw [if_neg (by rw [h33]; decide), HRR.out] at this; exact this.symm)
        have HL := Lib.hid (leaf10_any l n (by omega) w4 B HR4'.out)
        rw [HI.out] at HL
        clear h33 HI2
        go_wp2_with fail
        refine (HL.out).mono ?_
        rintro e w5 hP
        obtain ⟨k, s1, s2, a1, n1, c1, a2, n2, c2, er, rfl⟩ := filtP_form hP
        have HP := Lib.hid hP
        have HG5 := Lib.hid ((hP.1.block _ (lt_of_block HG4.out) (by simp; have := HBL.out; omega)).trans HG4.out)
        clear hP
        obtain ⟨⟨x0, x1, x2, x3, x4⟩, f0, f1, f2, f3, f4⟩ := box5F HG5.out
        go_wp2_with fail
        refine ret5 rfl w.heap.size _ _ _ _ _ _ rfl rfl rfl Tryd.underlying25 Tryd.szFilter HG5.out ?_
        intro w6 ho _
        exact filtP_pass HO4.out HP.out (by omega) ho (Nat.le_refl _) (lt_of_block HG4.out) HBL.out
end Go.Proofs.YtnlbhmjgeedgpaaDoor
