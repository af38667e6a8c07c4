/-
  Some texts of one proof, one behind the other.
-/
import Derived.Test.YtnioagojiipjlaaGreatPk32
import Derived.Test.YtnioagojiipjlaaGreatPk33
import Derived.Test.YtnioagojiipjlaaGreatPk46
set_option linter.unusedVariables false
set_option linter.unusedSimpArgs false

/-
  The document's Open.
-/
namespace Go.Proofs.YtnioagojiipjlaaGreat
open Go.RowKit Go.Maps
section
variable {w u : World} {Q : Nat} {g : Rg} {t : Nat} {j : Mt.Jn} {sl : Int} {d : Mt.Dk}
theorem IsR.off4 (h : IsR w g t d) : w.cell? ⟨g.R, 4, none⟩ = some (.bool d.off) := by
  obtain ⟨lim, most, tv, tn, tcs, h, ht⟩ := h
  have := h.row
  unfold rCells at this
  simp [World.cell?, this]
theorem ropen_small (h : IsR w g t d) (h4 : d.lasts.length < 4) : Calls Tryz.prog 12 #[.pointer (some ⟨g.R, 0, none⟩)] w fun e w' => e = .returned (.tuple #[.pointer none, .slice none 0 0, .int .i64 2]) ∧ w = w' := by
  have r0 := h.lasts0
  obtain ⟨a, ha⟩ := slc_form d.lasts.length g.bl g.cl
  rw [ha] at r0
  generalize d.lasts.length = n at *
  have d1 : decide ((n : Int) < 4) = true := decide_eq_true (by omega)
  have d2 : decide (n < 4) = true := decide_eq_true h4
  clear h ha h4
  go_enter Tryz.func12, Tryz.ntmps12
  go_wp2_with fail
  go_ret3
  exact ⟨rfl, rfl⟩
theorem ropen_off (h : IsR w g t d) (h4 : 4 ≤ d.lasts.length) (ho : d.off = true) : Calls Tryz.prog 12 #[.pointer (some ⟨g.R, 0, none⟩)] w fun e w' => e = .returned (.tuple #[.pointer none, .slice none 0 0, .int .i64 10]) ∧ w = w' := by
  have r0 := h.lasts0
  have r4 := h.off4
  rw [ho] at r4
  obtain ⟨a, ha⟩ := slc_form d.lasts.length g.bl g.cl
  rw [ha] at r0
  generalize d.lasts.length = n at *
  have d1 : decide ((n : Int) < 4) = false := decide_eq_false (by omega)
  have d2 : decide (n < 4) = false := decide_eq_false (by omega)
  clear h ha h4 ho
  go_enter Tryz.func12, Tryz.ntmps12
  go_wp2_with fail
  go_ret3
  exact ⟨rfl, rfl⟩
/-- The journal as Open begins it. -/
theorem QD.begun (h : IsR w g t d) (h4 : 4 ≤ d.lasts.length) : QD (w.alloc (.cells (rjnV g.R ⟨0, 1, 1, 0, 0, false⟩ (-1)) 80)) w.heap.size (g.more w.heap.size) t ⟨0, 1, 1, 0, 0, false⟩ (-1) d := by
  have hb := (Below.refl w.heap.size w).alloc (Nat.le_refl _) (.cells (rjnV g.R ⟨0, 1, 1, 0, 0, false⟩ (-1)) 80)
  have hm := h.more hb (b := w.heap.size) (Nat.le_refl _) (by simp)
  obtain ⟨lim, most, tv, tn, tcs, hd, _⟩ := h
  obtain ⟨a1, a2, _⟩ := hd.apart (by omega)
  have hs := hd.size
  have hr := hd.ltR
  exact ⟨heap_alloc_new w _, hm, .inr rfl, ⟨by show w.heap.size ≠ g.R; omega, by show w.heap.size ≠ g.bl; omega, by show w.heap.size ≠ g.bw; omega⟩, h4, Nat.le_refl _, Nat.le_refl _, Nat.zero_le _, Nat.zero_le _, Nat.zero_le _, .inr ⟨by decide, rfl⟩⟩
theorem TsP.all {w u : World} {g : Rg} {Q : Nat} {v : Value} {ls : List (List UInt8)} (h : IsTs u v ls) (h2 : TsP w g Q v ls) : IsTs w v ls := by
  obtain ⟨a, c, rfl, hc, _⟩ := h
  obtain ⟨a2, c2, e, h2⟩ := h2
  injection e with e1 e2 e3
  subst e1
  exact ⟨a, c, rfl, hc, h2.imp id fun ⟨b, off, e, h1, _, _, _, _, _, h7⟩ => ⟨b, off, e, h1, h7⟩⟩
theorem Mt.records_small (d : Mt.Dk) (a n gen : Nat) : (Mt.records (d.cellsFrom a n) gen).length ≤ n ∧ (∀ b ∈ Mt.records (d.cellsFrom a n) gen, b.length ≤ 110 * n) ∧ Mt.needs (Mt.records (d.cellsFrom a n) gen) ≤ n := by
  have hl := Mt.cellsFrom_length d a n
  refine ⟨?_, ?_, ?_⟩
  · have := Mt.recordsF_len (d.cellsFrom a n).length (d.cellsFrom a n) gen 0
    rw [hl] at this
    unfold Mt.records
    rw [hl]; exact this
  · exact Mt.recordsF_size _ _ gen 0 n (Mt.row_body d a n) (by rw [hl]; exact Nat.le_refl _)
  · have := Mt.recordsF_needs (d.cellsFrom a n).length (d.cellsFrom a n) gen 0 (Mt.cellsFrom_good d a n)
    rw [hl] at this
    unfold Mt.records
    rw [hl]; exact this
theorem FrQ.past {w w1 w' : World} {g : Rg} {Q : Nat} (hw : w.heap.size = Q) (h1 : Fr g w w1) (h2 : FrQ (g.more Q) Q w1 w') : Fr g w w' :=
  ⟨h2.os.trans h1.os, h2.tape.trans h1.tape, h2.output.trans h1.output, Nat.le_trans h1.size h2.size, fun k hk a1 a2 a3 a4 => (h2.block k (hk.imp id .inl) (Nat.lt_of_lt_of_le a1 h1.size) a2 a3 a4 (by omega)).trans (h1.block k hk a1 a2 a3 a4)⟩
theorem Mt.max_int (a b : Nat) : max (a : Int) (b : Int) = ((max a b : Nat) : Int) := by omega
set_option maxRecDepth 100000 in
set_option maxHeartbeats 2000000 in
theorem ropen_on (h : IsR w g t d) (h4 : 4 ≤ d.lasts.length) (ho : d.off = false) (hsm : d.lasts.length ≤ 1000) (ht : t + 20010 < 1000000) : Calls Tryz.prog 12 #[.pointer (some ⟨g.R, 0, none⟩)] w fun e w' =>
    ((Mt.openJ d).2.2 = 0 → ∃ x sl', e = .returned (.tuple #[.pointer (some ⟨w.heap.size, 0, none⟩), x, .int .i64 0]) ∧ IsTs w' x (Mt.findJ d).2 ∧ QD w' w.heap.size (g.more w.heap.size) (t + 20010) (Mt.openJ d).2.1 sl' (Mt.openJ d).1) ∧
    ((Mt.openJ d).2.2 ≠ 0 → e = .returned (.tuple #[.pointer none, .slice none 0 0, .int .i64 (Mt.openJ d).2.2]) ∧ IsR w' g (t + 20010) (Mt.openJ d).1) ∧ Fr g w w' := by
  have HBEG := Lib.hid (QD.begun h h4)
  have r0 := h.lasts0
  have r4 := h.off4
  rw [ho] at r4
  rw [slc_pos (by omega)] at r0
  have HO := Lib.hid ho
  have HSM := Lib.hid hsm
  have HT := Lib.hid ht
  have HH := Lib.hid h
  obtain ⟨n, hn⟩ : ∃ n, d.lasts.length = n := ⟨_, rfl⟩
  obtain ⟨z, hz⟩ : ∃ z, Mt.hsize d.lasts.length = z := ⟨_, rfl⟩
  have HZ := Lib.hid hz
  have HN := Lib.hid hn
  rw [hn] at r0
  have hz2 : z ≤ 499 ∧ 2 + 2 * z ≤ n ∧ n ≤ 1000 ∧ 1 ≤ z := by rw [← hz, ← hn]; unfold Mt.hsize; omega
  have HZ2 := Lib.hid hz2
  have d1 : decide ((n : Int) < 4) = false := decide_eq_false (by omega)
  have d2 : decide (n < 4) = false := decide_eq_false (by omega)
  generalize hPP : (fun (e : Ending) (w' : World) => ((Mt.openJ d).2.2 = 0 → ∃ x sl', e = .returned (.tuple #[.pointer (some ⟨w.heap.size, 0, none⟩), x, .int .i64 0]) ∧ IsTs w' x (Mt.findJ d).2 ∧ QD w' w.heap.size (g.more w.heap.size) (t + 20010) (Mt.openJ d).2.1 sl' (Mt.openJ d).1) ∧
    ((Mt.openJ d).2.2 ≠ 0 → e = .returned (.tuple #[.pointer none, .slice none 0 0, .int .i64 (Mt.openJ d).2.2]) ∧ IsR w' g (t + 20010) (Mt.openJ d).1) ∧ Fr g w w') = PP
  have HPP := Lib.hid hPP
  have HW1 : Hid (rjnV g.R ⟨0, 1, 1, 0, 0, false⟩ (-1) = #[.pointer (some ⟨g.R, 0, none⟩), .int .i64 0, .int .i64 1, .int .i64 (-1), .int .i64 0, .int .i64 0, .bool false]) := Lib.hid rfl
  have HFW := Lib.hid ((Fr.refl g w).below ((Below.refl w.heap.size w).alloc (Nat.le_refl _) (.cells (rjnV g.R ⟨0, 1, 1, 0, 0, false⟩ (-1)) 80)))
  rw [HW1.out] at HBEG HFW
  clear hPP h h4 ho hsm ht hn hz hz2
  go_enter Tryz.func12, Tryz.ntmps12
  go_wp2_with fail
  generalize w.alloc (.cells #[.pointer (some ⟨g.R, 0, none⟩), .int .i64 0, .int .i64 1, .int .i64 (-1), .int .i64 0, .int .i64 0, .bool false] 80) = w1 at *
  generalize hQ : w.heap.size = Q at *
  have HQE := Lib.hid hQ
  clear hQ r0 r4 d1 d2
  have HHB := Lib.hid (fun i => Mt.opSt_half (Mt.hdAt d) (fun i => (Mt.rdHead_gen (d.sec i)).2) i)
  have HR0 : Hid (QD w1 Q (g.more Q) t ⟨0, (Mt.opSt (Mt.hdAt d) 0).half, (Mt.opSt (Mt.hdAt d) 0).head, 0, 0, false⟩ (Mt.opSt (Mt.hdAt d) 0).slot d ∧ FrQ (g.more Q) Q w1 w1) := Lib.hid ⟨HBEG.out, FrQ.refl _ _ _⟩
  go_loopw [6, 7, 8, 9, 10, 11, 12, 13, 14, 15, 16] (fun mv cv iv _ _ _ _ _ _ _ _ wr => ∃ i : Nat, i ≤ 2 + 2 * z ∧ iv = .int .i64 (i : Int) ∧ mv = .int .i64 (Mt.opMost (Mt.genAt d) i : Int) ∧ cv = .int .i64 ((Mt.opSt (Mt.hdAt d) i).cur : Int) ∧ Hid (QD wr Q (g.more Q) t ⟨0, (Mt.opSt (Mt.hdAt d) i).half, (Mt.opSt (Mt.hdAt d) i).head, 0, 0, false⟩ (Mt.opSt (Mt.hdAt d) i).slot d ∧ FrQ (g.more Q) Q w1 wr)) (fun _ _ iv _ _ _ _ _ _ _ _ _ => 2 + 2 * z - (intOf iv).toNat)
  case atStart => exact ⟨0, Nat.zero_le _, rfl, rfl, rfl, HR0⟩
  case round =>
    obtain ⟨i, hi, rfl, rfl, rfl, HRA⟩ := hrel
    have HSZ := Lib.hid (rsize_any HRA.out.1)
    rw [HZ.out] at HSZ
    have hzb := HZ2.out
    have hw2 : wrap64 (2 * (z : Int)) = 2 * (z : Int) := by simp only [wrap64]; omega
    have hw3 : wrap64 (2 + 2 * (z : Int)) = 2 + 2 * (z : Int) := by clear hw2; simp only [wrap64]; omega
    by_cases hlt : i < 2 + 2 * z
    · have d1 : decide ((i : Int) < 2 + 2 * (z : Int)) = true := decide_eq_true (by clear hw2 hw3; omega)
      have hid : i < d.lasts.length := by have := HN.out; clear hw2 hw3; omega
      have HRD : Hid (Calls Tryz.prog 41 #[.pointer (some ⟨g.R, 0, none⟩), .int .i64 (i : Int)] wr fun e w' => e = .returned (.tuple #[.string (Mt.str (d.sec i)), .int .i64 0]) ∧ wr = w') := Lib.hid (by
        have := eread_any HRA.out.1.dk (i : Int)
        rw [Mt.read_sec HO.out hid] at this
        exact this)
      have hsl := Mt.sec_len HRA.out.1.dk.ok HO.out hid
      have HIB := Lib.hid (show i ≤ 1000 by clear hw2 hw3; omega)
      have HLT := Lib.hid hlt
      have HML := Lib.hid (Mt.opMost_lt d i)
      by_cases h2 : i < 2
      · have d3 : decide ((i : Int) < 2) = true := decide_eq_true (by clear hw2 hw3; omega)
        have d4 : decide (i < 2) = true := decide_eq_true h2
        have HRH := Lib.hid (fun u => rrhead_any (d.sec i) u hsl)
        have hgen : Mt.opMost (Mt.genAt d) (i + 1) = max (Mt.opMost (Mt.genAt d) i) (Mt.rdHead (d.sec i)).1 := by
          show max _ (Mt.genAt d i) = _
          unfold Mt.genAt
          rw [if_pos h2]
        have HGEN := Lib.hid hgen
        have HHG := Lib.hid (Mt.rdHead_gen (d.sec i))
        have HHI := Lib.hid (HHB.out i)
        have hst : Mt.opSt (Mt.hdAt d) (i + 1) = if (Mt.opSt (Mt.hdAt d) i).cur < (Mt.rdHead (d.sec i)).1 then ⟨(Mt.rdHead (d.sec i)).1, (Mt.rdHead (d.sec i)).2, i, i⟩ else Mt.opSt (Mt.hdAt d) i := by
          by_cases hx : (Mt.opSt (Mt.hdAt d) i).cur < (Mt.rdHead (d.sec i)).1
          · rw [if_pos hx]; exact Mt.opSt_hit (h := Mt.hdAt d) h2 hx
          · rw [if_neg hx]; exact Mt.opSt_miss (h := Mt.hdAt d) (fun y => hx y.2)
        have HST := Lib.hid hst
        have H2 := Lib.hid h2
        have i1 : (i : Int) ≤ 1000 := by have := HIB.out; clear hw2 hw3; omega
        clear hgen hsl hid hlt h2 hi hzb hst
        generalize d.sec i = s at *
        obtain ⟨a, b, hab⟩ : ∃ a b, Mt.rdHead s = (a, b) := ⟨_, _, rfl⟩
        rw [hab] at HRH HGEN HHG HST
        simp only at HRH HGEN HHG HST
        clear hab
        obtain ⟨K, L, E, S, hKL⟩ : ∃ K L E S, Mt.opSt (Mt.hdAt d) i = ⟨K, L, E, S⟩ := ⟨_, _, _, _, rfl⟩
        rw [hKL] at HRA HST HHI ⊢
        simp only at HRA HST HHI ⊢
        clear hKL
        generalize Mt.opMost (Mt.genAt d) i = M at *
        have HMX := Lib.hid (Mt.max_int M a)
        have hmx := HMX.out
        obtain ⟨zk, hzk⟩ : ∃ zk, decide (a ≠ 0) = zk := ⟨_, rfl⟩
        rw [hzk] at HRH
        have HAL := Lib.hid (show a < 4294967296 from HHG.out.1)
        by_cases hcur : K < a
        · have hz1 : zk = true := by rw [← hzk]; exact decide_eq_true (by clear hw2 hw3; omega)
          subst hz1
          have g1 : decide ((K : Int) < (a : Int)) = true := decide_eq_true (by clear hw2 hw3; omega)
          have g2 : decide (K < a) = true := decide_eq_true hcur
          have hst := HST.out
          rw [if_pos hcur] at hst
          have HS2 := Lib.hid hst
          clear hst hzk hcur
          go_wp2_with fail
          with_reducible refine (HSZ.out).mono ?_
          rintro e w2 ⟨rfl, rfl⟩
          go_wp2_with fail
          with_reducible refine (HRD.out).mono ?_
          rintro e w2 ⟨rfl, rfl⟩
          go_wp2_with fail
          with_reducible refine (HRH.out _).mono ?_
          rintro e w2 ⟨rfl, hb2⟩
          have hq2 := HRA.out.1.below hb2
          have HQ2 := Lib.hid hq2
          have HF2 := Lib.hid (HRA.out.2.below hb2)
          obtain ⟨k0, k1, k2, k3, k4, k5, k6⟩ := hq2.jn.cells
          have p2 := frozen_of_row _ Q 2 _ _ hq2.jn
          have p3 := frozen_of_row _ Q 3 _ _ hq2.jn
          clear hb2 hq2
          go_wp2_with fail
          go_roundw
          case rel =>
            have h2 := H2.out
            have u1 := HQ2.out.set 2 (.int .i64 (b : Int)) (n := ⟨0, b, E, 0, 0, false⟩) (sl' := S) rfl HHG.out.2 HHI.out.2.1 (Nat.zero_le _) (Nat.zero_le _) (Nat.zero_le _) HHI.out.2.2
            have u2 := u1.set 3 (.int .i64 (i : Int)) (n := ⟨0, b, i, 0, 0, false⟩) (sl' := (i : Int)) rfl HHG.out.2 (by show i ≤ 1; omega) (Nat.zero_le _) (Nat.zero_le _) (Nat.zero_le _) (by show ((i : Int) = 0 ∧ i = 0) ∨ ((i : Int) ≠ 0 ∧ i = 1); omega)
            exact ⟨i + 1, by have := HLT.out; omega, by go_num, by rw [HGEN.out], by rw [HS2.out], Lib.hid ⟨by rw [HS2.out]; exact u2, (HF2.out.set 2 _).set 3 _⟩⟩
          case measure => have := HLT.out; simp [intOf]; omega
        · have g1 : decide ((K : Int) < (a : Int)) = false := decide_eq_false (by clear hw2 hw3; omega)
          have g2 : decide (K < a) = false := decide_eq_false hcur
          have hst := HST.out
          rw [if_neg hcur] at hst
          have HS2 := Lib.hid hst
          clear hst hzk hcur
          cases zk
          all_goals
            go_wp2_with fail
            with_reducible refine (HSZ.out).mono ?_
            rintro e w2 ⟨rfl, rfl⟩
            go_wp2_with fail
            with_reducible refine (HRD.out).mono ?_
            rintro e w2 ⟨rfl, rfl⟩
            go_wp2_with fail
            with_reducible refine (HRH.out _).mono ?_
            rintro e w2 ⟨rfl, hb2⟩
            have HQ2 := Lib.hid (HRA.out.1.below hb2)
            have HF2 := Lib.hid (HRA.out.2.below hb2)
            clear hb2
            go_wp2_with fail
            go_roundw
            case rel => exact ⟨i + 1, by have := HLT.out; omega, by go_num, by rw [HGEN.out], by rw [HS2.out], Lib.hid ⟨by rw [HS2.out]; exact HQ2.out, HF2.out⟩⟩
            case measure => have := HLT.out; simp [intOf]; omega
      · have d3 : decide ((i : Int) < 2) = false := decide_eq_false (by clear hw2 hw3; omega)
        have d4 : decide (i < 2) = false := decide_eq_false h2
        have HRC := Lib.hid (fun u => rread_any (d.sec i) u hsl)
        have hgen : Mt.opMost (Mt.genAt d) (i + 1) = max (Mt.opMost (Mt.genAt d) i) (Mt.rdCell (d.sec i)).gen := by
          show max _ (Mt.genAt d i) = _
          unfold Mt.genAt
          rw [if_neg h2]
        have HGEN := Lib.hid hgen
        have HST := Lib.hid (Mt.opSt_miss (h := Mt.hdAt d) (i := i) (fun x => h2 x.1))
        have HCG := Lib.hid (Mt.rdCell_gen (d.sec i))
        clear hgen hsl hid hlt h2 hi hzb
        generalize d.sec i = s at *
        unfold rclV at HRC
        generalize Mt.rdCell s = C at *
        generalize decide (Mt.isCl s) = zz at *
        generalize Mt.opMost (Mt.genAt d) i = M at *
        go_wp2_with fail
        with_reducible refine (HSZ.out).mono ?_
        rintro e w2 ⟨rfl, rfl⟩
        go_wp2_with fail
        with_reducible refine (HRD.out).mono ?_
        rintro e w2 ⟨rfl, rfl⟩
        go_wp2_with fail
        with_reducible refine (HRC.out _).mono ?_
        rintro e w2 ⟨rfl, hb2⟩
        have HQ2 := Lib.hid (HRA.out.1.below hb2)
        have HF2 := Lib.hid (HRA.out.2.below hb2)
        have hba := (Below.refl w2.heap.size w2).alloc (Nat.le_refl _) (.cells #[.int .i64 (C.gen : Int), .int .i64 (C.number : Int), .int .i64 (C.part : Int), .int .i64 (C.parts : Int), .string (Mt.str C.body)] 86)
        have HQ3 := Lib.hid (HQ2.out.below hba)
        have HF3 := Lib.hid (HF2.out.below hba)
        have hmx : max (M : Int) (C.gen : Int) = ((max M C.gen : Nat) : Int) := Mt.max_int _ _
        have HMX := Lib.hid hmx
        have i1 : (i : Int) ≤ 1000 := by have := HIB.out; clear hw2 hw3; omega
        clear hb2 hba
        go_wp2_with fail
        go_roundw
        case rel => exact ⟨i + 1, by have := HLT.out; omega, by go_num, by rw [HGEN.out], by rw [HST.out], Lib.hid ⟨by rw [HST.out]; exact HQ3.out, HF3.out⟩⟩
        case measure => have := HLT.out; simp [intOf]; omega
    · have hie : 2 + 2 * z = i := by clear hw2 hw3; omega
      have d1 : decide ((i : Int) < 2 + 2 * (z : Int)) = false := decide_eq_false (by clear hw2 hw3; omega)
      have hlate : Mt.opSt (Mt.hdAt d) i = Mt.opSt (Mt.hdAt d) 2 := by rw [← hie, Nat.add_comm]; exact Mt.opSt_late _ _
      have hfj := Mt.findJ_op d
      have HHI := Lib.hid (HHB.out 2)
      have HML := Lib.hid (Mt.opMost_lt d i)
      rw [hlate] at HRA ⊢
      rw [HZ.out, hie] at hfj
      clear hlate hlt hi hie
      obtain ⟨K, H, E, S, hKL⟩ : ∃ K L E S, Mt.opSt (Mt.hdAt d) 2 = ⟨K, L, E, S⟩ := ⟨_, _, _, _, rfl⟩
      rw [hKL] at HRA HHI hfj ⊢
      simp only at HRA HHI hfj ⊢
      obtain ⟨M, hM⟩ : ∃ M, Mt.opMost (Mt.genAt d) i = M := ⟨_, rfl⟩
      rw [hM] at hfj HML ⊢
      obtain ⟨bs, hbs⟩ : ∃ bs, (if K = 0 then [] else Mt.records (d.cellsFrom (2 + H * z) z) K) = bs := ⟨_, rfl⟩
      rw [hbs] at hfj
      have HBS := Lib.hid hbs
      have HFJ := Lib.hid hfj
      have hsmall : bs.length ≤ 1000 ∧ (∀ b ∈ bs, b.length ≤ 262144) ∧ Mt.needs bs ≤ 10000 := by
        rw [← hbs]
        split
        · exact ⟨Nat.zero_le _, (fun b (hb : b ∈ []) => absurd hb (by simp)), Nat.zero_le _⟩
        · obtain ⟨a1, a2, a3⟩ := Mt.records_small d (2 + H * z) z K
          clear hw2 hw3
          exact ⟨by omega, fun b hb => by have := a2 b hb; omega, by omega⟩
      have HSML := Lib.hid hsmall
      have HOJ : Hid (Mt.resetJ d ⟨M, H, E, 0, 0, false⟩ bs = Mt.openJ d) := Lib.hid (by
        unfold Mt.openJ Mt.resetJ
        rw [HFJ.out]
        rw [if_pos]
        unfold Mt.askJ
        rw [if_neg (by simp), if_pos]
        rw [List.all_eq_true]
        intro x hx
        exact decide_eq_true (hsmall.2.1 x hx))
      -- Reset, from any world behind the records
      have HRES : Hid (∀ (w2 : World) (x : Value) (a : Option Addr) (c : Nat), x = .slice a bs.length c → Below wr.heap.size wr w2 → IsOwn 9 1 wr.heap.size w2 x bs.length (tcs bs) → IsTs w2 x bs → Calls Tryz.prog 19 #[.pointer (some ⟨Q, 0, none⟩), x] (w2.setCell ⟨Q, 1, none⟩ (.int .i64 (M : Int))) fun e w' => e = .returned (.int .i64 (Mt.openJ d).2.2) ∧ Hid ((∃ sl', QD w' Q (g.more Q) (t + 20010) (Mt.openJ d).2.1 sl' (Mt.openJ d).1) ∧ IsTs w' x bs ∧ FrQ (g.more Q) Q wr w')) := Lib.hid (fun w2 x a c _ hb2 ho hts => by
        obtain ⟨g', hq', htp, hfq, hless⟩ := HRA.out.1.row hb2 ho
        have hq2 := hq'.set 1 (.int .i64 (M : Int)) (n := ⟨M, H, E, 0, 0, false⟩) (sl' := S) rfl HHI.out.1 HHI.out.2.1 (by show M ≤ 4294967296; have := HML.out; clear hw2 hw3; omega) (Nat.zero_le _) (Nat.zero_le _) HHI.out.2.2
        have hf2 := (FrQ.refl g' Q w2).set 1 (.int .i64 (M : Int))
        have htp2 := htp.fr hf2
        have hr := rreset_any hq2 htp2 HSML.out.1 HSML.out.2.1 HSML.out.2.2 HT.out
        rw [HOJ.out] at hr
        refine hr.mono fun e w' ⟨e1, ⟨sl', e2, _⟩, e3⟩ => ⟨e1, Lib.hid ⟨⟨sl', hless _ _ _ _ _ e2⟩, TsP.all hts (htp2.fr e3), ?_⟩⟩
        exact ((FrQ.refl (g.more Q) Q wr).below hb2).trans (hfq _ _ (hf2.trans e3)))
      clear hfj hbs hsmall hKL hM hzb
      obtain ⟨k0, k1, k2, k3, k4, k5, k6⟩ := HRA.out.1.jn.cells
      have p1 := frozen_of_row _ Q 1 _ _ HRA.out.1.jn
      by_cases hK : K = 0
      · subst hK
        have hb0 : bs = [] := by rw [← HBS.out, if_pos rfl]
        have HR := Lib.hid (HRES.out wr (.slice none 0 0) none 0 (by rw [hb0]; rfl) (Below.refl _ _) (by rw [hb0]; exact IsOwn.nil _ _ _ _) ⟨none, 0, by rw [hb0]; rfl, by rw [hb0]; exact Nat.le_refl _, .inl hb0⟩)
        clear hb0
        go_wp2_with fail
        with_reducible refine (HSZ.out).mono ?_
        rintro e w2 ⟨rfl, rfl⟩
        go_wp2_with fail
        with_reducible refine (HR.out).mono ?_
        rintro e w3 ⟨rfl, HFIN⟩
        clear k0 k1 k2 k3 k4 k5 k6 p1
        have HQ1 := Lib.hid HFIN.out.1
        have HFA := Lib.hid (FrQ.past HQE.out HFW.out (HRA.out.2.trans HFIN.out.2.2))
        obtain ⟨rr, jj, E0, hop⟩ : ∃ rr jj E0, Mt.openJ d = (rr, jj, E0) := ⟨_, _, _, rfl⟩
        have HOP := Lib.hid hop
        rw [hop] at HQ1 ⊢
        simp only at HQ1 ⊢
        by_cases hE : E0 = 0
        · subst hE
          clear hop
          go_wp2_with fail
          go_ret3
          rw [← HPP.out]
          obtain ⟨sl', hq⟩ := HQ1.out
          refine ⟨fun _ => ⟨_, sl', rfl, ?_, ?_⟩, fun hne => absurd (by rw [HOP.out]) hne, HFA.out⟩
          · rw [HFJ.out]; exact HFIN.out.2.1
          · rw [HOP.out]; exact hq
        · have x1 : (E0 != 0) = true := by simpa using hE
          have HNE := Lib.hid hE
          clear hop hE
          go_wp2_with fail
          go_ret3
          rw [← HPP.out]
          obtain ⟨sl', hq⟩ := HQ1.out
          refine ⟨fun h0 => absurd (by rw [HOP.out] at h0; exact h0) HNE.out, fun _ => ⟨by rw [HOP.out]; rfl, ?_⟩, HFA.out⟩
          rw [HOP.out]
          exact hq.dk.less rfl (fun _ hp => .inl hp)
      · have g1 : decide ((0 : Int) < (K : Int)) = true := decide_eq_true (by clear hw2 hw3; omega)
        have g2 : decide (0 < K) = true := decide_eq_true (by clear hw2 hw3; omega)
        have hb0 : Mt.records (d.cellsFrom (2 + H * z) z) K = bs := by rw [← HBS.out, if_neg hK]
        have HREC := Lib.hid (rrecords_any HRA.out.1 HO.out H K HHI.out.1 hK)
        rw [HZ.out, hb0] at HREC
        clear hb0 hK
        go_wp2_with fail
        with_reducible refine (HSZ.out).mono ?_
        rintro e w2 ⟨rfl, rfl⟩
        go_wp2_with fail
        with_reducible refine (HREC.out).mono ?_
        rintro e w2 ⟨a, c, rfl, ho, hb2⟩
        have HR := Lib.hid (HRES.out w2 (.slice a bs.length c) a c rfl hb2 ho ho.ts)
        have hrow := (hb2.block Q (lt_of_block HRA.out.1.jn)).trans HRA.out.1.jn
        obtain ⟨l0, l1, l2, l3, l4, l5, l6⟩ := IsQ.cells (w := w2) hrow
        have q1 := frozen_of_row _ Q 1 _ _ hrow
        clear ho hb2 hrow k0 k1 k2 k3 k4 k5 k6 p1
        go_wp2_with fail
        with_reducible refine (HR.out).mono ?_
        rintro e w3 ⟨rfl, HFIN⟩
        clear l0 l1 l2 l3 l4 l5 l6 q1
        have HQ1 := Lib.hid HFIN.out.1
        have HFA := Lib.hid (FrQ.past HQE.out HFW.out (HRA.out.2.trans HFIN.out.2.2))
        obtain ⟨rr, jj, E0, hop⟩ : ∃ rr jj E0, Mt.openJ d = (rr, jj, E0) := ⟨_, _, _, rfl⟩
        have HOP := Lib.hid hop
        rw [hop] at HQ1 ⊢
        simp only at HQ1 ⊢
        by_cases hE : E0 = 0
        · subst hE
          clear hop
          go_wp2_with fail
          go_ret3
          rw [← HPP.out]
          obtain ⟨sl', hq⟩ := HQ1.out
          refine ⟨fun _ => ⟨_, sl', rfl, ?_, ?_⟩, fun hne => absurd (by rw [HOP.out]) hne, HFA.out⟩
          · rw [HFJ.out]; exact HFIN.out.2.1
          · rw [HOP.out]; exact hq
        · have x1 : (E0 != 0) = true := by simpa using hE
          have HNE := Lib.hid hE
          clear hop hE
          go_wp2_with fail
          go_ret3
          rw [← HPP.out]
          obtain ⟨sl', hq⟩ := HQ1.out
          refine ⟨fun h0 => absurd (by rw [HOP.out] at h0; exact h0) HNE.out, fun _ => ⟨by rw [HOP.out]; rfl, ?_⟩, HFA.out⟩
          rw [HOP.out]
          exact hq.dk.less rfl (fun _ hp => .inl hp)
end
end Go.Proofs.YtnioagojiipjlaaGreat

/-
  What the statement's cut, cuts and alike come to.
-/
namespace Go.Proofs.YtnioagojiipjlaaGreat
open Go.RowKit Go.Maps
theorem Mt.str_take (s : List UInt8) (n : Nat) : (Mt.str s).extract 0 n = Mt.str (s.take n) := by
  have h := Mt.ext_list (Mt.str s) 0 n
  rw [Nat.zero_add] at h
  exact h
section
variable {w u : World}
theorem cut6_any (s : List UInt8) (n : Nat) (w : World) (hs : s.length ≤ 9223372036854775807) (hn : n ≤ 100000) : Calls Tryz.prog 26 #[.string (Mt.str s), .int .i64 (n : Int)] w fun e w' => e = .returned (.string (Mt.str (s.take n))) ∧ w = w' := by
  have hz : (Mt.str s).size = s.length := Mt.str_size s
  have hzi : ((Mt.str s).size : Int) = (s.length : Int) := by rw [hz]
  obtain ⟨E, hE⟩ : ∃ E, min s.length n = E := ⟨_, rfl⟩
  have m1 : min (s.length : Int) (n : Int) = (E : Int) := by omega
  have hE2 : (E : Int) ≤ ((Mt.str s).size : Int) := by omega
  have hE4 : E ≤ (Mt.str s).size := by omega
  have hE3 : (0 : Int) ≤ (E : Int) := by omega
  have HX : Hid ((Mt.str s).extract 0 E = Mt.str (s.take n)) := Lib.hid (by
    rw [Mt.str_take, ← hE]
    congr 1
    by_cases h : s.length ≤ n
    · rw [Nat.min_eq_left h, List.take_length, List.take_of_length_le h]
    · rw [Nat.min_eq_right (by omega)])
  clear hE hz hs hn
  go_enter Tryz.func26, Tryz.ntmps26
  go_wp2_with fail
  go_ret
  exact ⟨by rw [HX.out]; rfl, rfl⟩
/-- Texts, cut. -/
def Mt.cutsL (ls : List (List UInt8)) (n most : Nat) : List (List UInt8) := (ls.take most).map (List.take n)
theorem Mt.cutsL_length (ls : List (List UInt8)) (n most : Nat) : (Mt.cutsL ls n most).length = min most ls.length := by unfold Mt.cutsL; rw [List.length_map, List.length_take]
theorem Mt.cutsL_le (ls : List (List UInt8)) (n most : Nat) : ∀ b ∈ Mt.cutsL ls n most, b.length ≤ n := fun b hb => by
  unfold Mt.cutsL at hb
  rw [List.mem_map] at hb
  obtain ⟨x, _, rfl⟩ := hb
  rw [List.length_take]; exact Nat.min_le_left _ _
theorem Mt.cutsL_take (ls : List (List UInt8)) (n most k : Nat) (h : k < min most ls.length) : (Mt.cutsL ls n most).take (k + 1) = (Mt.cutsL ls n most).take k ++ [(ls.getD k []).take n] := by
  rw [List.take_succ_eq_append_getElem (by rw [Mt.cutsL_length]; exact h)]
  congr 2
  unfold Mt.cutsL
  rw [List.getElem_map, List.getElem_take, List.getD_eq_getElem?_getD, List.getElem?_eq_getElem (by omega), Option.getD_some]
set_option maxRecDepth 100000 in
set_option maxHeartbeats 1000000 in
theorem cuts6_any {v : Value} {ls : List (List UInt8)} (hv : IsTs w v ls) (n most : Nat) (hn : n ≤ 100000) (hm : most ≤ 1000) (hl : ls.length ≤ 9223372036854775807) (hb : ∀ b ∈ ls, b.length ≤ 9223372036854775807) :
    Calls Tryz.prog 17 #[v, .int .i64 (n : Int), .int .i64 (most : Int)] w fun e w' => ∃ a c, e = .returned (.slice a (Mt.cutsL ls n most).length c) ∧ IsOwn 9 1 w.heap.size w' (.slice a (Mt.cutsL ls n most).length c) (Mt.cutsL ls n most).length (tcs (Mt.cutsL ls n most)) ∧ Below w.heap.size w w' := by
  obtain ⟨i0, hi, hz0, hz1, hz2⟩ := info_parts Tryz.infoStr6
  have HI := Lib.hid (And.intro hi (And.intro hz0 (And.intro hz1 hz2)))
  obtain ⟨va, vc, rfl, hcap, hrest⟩ := hv
  obtain ⟨E, hE⟩ : ∃ E, min most ls.length = E := ⟨_, rfl⟩
  have HCL := Lib.hid ((Mt.cutsL_length ls n most).trans hE)
  have HCELL : Hid (∀ k, k < E → ∃ b off, va = some ⟨b, off, none⟩ ∧ b < w.heap.size ∧ w.cell? ⟨b, off + k, none⟩ = some (.string (Mt.str (ls.getD k [])))) := Lib.hid (fun k hk => by
    have hkl : k < ls.length := by omega
    rcases hrest with rfl | ⟨b, off, e, h1, h2⟩
    · simp at hkl
    · exact ⟨b, off, e, h1, by rw [List.getD_eq_getElem?_getD, List.getElem?_eq_getElem hkl, Option.getD_some]; exact h2 k hkl⟩)
  have HCUT := Lib.hid (fun k (hk : k < E) (u : World) => cut6_any (ls.getD k []) n u (by
    have hkl : k < ls.length := by omega
    rw [List.getD_eq_getElem?_getD, List.getElem?_eq_getElem hkl, Option.getD_some]
    exact hb _ (List.getElem_mem hkl)) hn)
  have HTK := Lib.hid (fun k (hk : k < E) => Mt.cutsL_take ls n most k (by rw [hE]; exact hk))
  obtain ⟨N, hN⟩ : ∃ N, ls.length = N := ⟨_, rfl⟩
  rw [hN] at hE hcap hl ⊢
  have m1 : min (N : Int) (most : Int) = (E : Int) := by omega
  have e0 : (0 : Int) ≤ (E : Int) := by omega
  have e1 : (E : Int) ≤ (vc : Int) := by omega
  have e2 : E ≤ vc := by omega
  have hE1 : E ≤ 1000 := by omega
  have HE1 := Lib.hid hE1
  have HR0 : Hid (IsOwn 9 1 w.heap.size w (.slice none 0 0) 0 (tcs ((Mt.cutsL ls n most).take 0)) ∧ Below w.heap.size w w) := Lib.hid ⟨IsOwn.nil _ _ _ _, Below.refl _ _⟩
  have HALL := Lib.hid (show (Mt.cutsL ls n most).take E = Mt.cutsL ls n most from List.take_of_length_le (by rw [HCL.out]; exact Nat.le_refl _))
  clear hi hz0 hz1 hz2 hrest hE hN hn hm hl hb hcap
  go_enter Tryz.func17, Tryz.ntmps17
  go_wp2_with fail
  go_loopw [17, 9, 7] (fun iv _ ov wr => ∃ (k : Nat) (a : Option Addr) (c : Nat), k ≤ E ∧ iv = .int .i64 (k : Int) ∧ ov = .slice a k c ∧ Hid (IsOwn 9 1 w.heap.size wr (.slice a k c) k (tcs ((Mt.cutsL ls n most).take k)) ∧ Below w.heap.size w wr)) (fun iv _ _ _ => E - (intOf iv).toNat)
  case atStart => exact ⟨0, none, 0, Nat.zero_le _, rfl, rfl, HR0⟩
  case round =>
    obtain ⟨k, a, c, hk, rfl, rfl, HRA⟩ := hrel
    by_cases hlt : k < E
    · obtain ⟨b, off, rfl, hbl, hc⟩ := HCELL.out k hlt
      have hc2 := ((HRA.out.2).cell (p := ⟨b, off + k, none⟩) hbl).trans hc
      have HC := Lib.hid (HCUT.out k hlt)
      have HT := Lib.hid (HTK.out k hlt)
      have d1 : decide ((k : Int) < (E : Int)) = true := decide_eq_true (by omega)
      have d2 : decide (k < E) = true := decide_eq_true hlt
      generalize ls.getD k [] = B at *
      obtain ⟨a3, c3, w3, hrun, hown, hb3⟩ := own_push (T := 30) (tx := 30) Tryz.underlying30 Tryz.underlying30 HI.out.1 HI.out.2.1 HI.out.2.2.1 HI.out.2.2.2 rfl HRA.out.1 HRA.out.2.size (tcs_one _) #[.string (Mt.str (B.take n))] rfl (by simp [Value.oneCell']) (by omega) (by omega)
      have HO3 := Lib.hid hown
      have HB3 := Lib.hid (HRA.out.2.trans hb3)
      clear hown hb3 hc hbl
      go_wp2_with fail
      with_reducible refine (HC.out _).mono ?_
      rintro e w2 ⟨rfl, rfl⟩
      go_wp2_with (refine wpList_append_run rfl _ _ 30 30 rfl _ _ rfl rfl hrun ?_)
      go_roundw
      case rel => exact ⟨k + 1, a3, c3, by omega, by go_num, rfl, Lib.hid ⟨by rw [HT.out, tcs_append]; exact HO3.out, HB3.out⟩⟩
      case measure => simp [intOf]; omega
    · obtain rfl : k = E := by omega
      have d1 : decide ((k : Int) < (k : Int)) = false := decide_eq_false (by omega)
      have d2 : decide (k < k) = false := decide_eq_false (by omega)
      clear hlt
      go_wp2_with fail
      go_ret
      rw [HCL.out]
      refine ⟨a, c, rfl, ?_, HRA.out.2⟩
      have h1 := HRA.out.1
      rw [HALL.out] at h1
      exact h1
end
end Go.Proofs.YtnioagojiipjlaaGreat
