/-
  Some texts of one proof, one behind the other.
-/
import Derived.Test.YtnioagojiipjlaaGreatPk0
import Derived.Test.YtnioagojiipjlaaGreatPk7
import Derived.Test.YtnioagojiipjlaaGreatPk8
import Derived.Test.YtnioagojiipjlaaGreatPk17
set_option linter.unusedVariables false
set_option linter.unusedSimpArgs false

/-
  The document's sectors: seal, a cell's and a head's bytes.
-/
namespace Go.Proofs.YtnioagojiipjlaaGreat
open Go.RowKit
/-- A cell of the document's. -/
def rclV (c : Mt.Cl) : Array Value := #[.int .i64 (c.gen : Int), .int .i64 (c.number : Int), .int .i64 (c.part : Int), .int .i64 (c.parts : Int), .string (Mt.str c.body)]
theorem rputb_any (n size : Nat) (w : World) (h1 : 1 ≤ size) (h2 : size ≤ 8) (hn : n < 18446744073709551616) : Calls Tryz.prog 74 #[.int .u64 n, .int .i64 size] w fun e w' => e = .returned (.string (Mt.str (Mt.bb n size))) ∧ Below w.heap.size w w' := rput_yes n size w hn h2
set_option maxRecDepth 100000 in
theorem rseal_any (l : List UInt8) (w : World) (hl : l.length ≤ 124) : Calls Tryz.prog 73 #[.string (Mt.str l)] w fun e w' => e = .returned (.string (Mt.str (Mt.sealL l))) ∧ Below w.heap.size w w' := by
  have HREP : Hid (∀ u : World, Calls Tryz.prog 32 #[.int .i64 ((124 - l.length : Nat) : Int)] u fun e w' => e = .returned (.string (Mt.str (List.replicate (124 - l.length) 0))) ∧ Below u.heap.size u w') := Lib.hid (fun u => blank_any (124 - l.length) (by omega) u)
  have HL := Lib.hid (Mt.filled_length l hl)
  have HF := Lib.hid (show Mt.str l ++ Mt.str (List.replicate (124 - l.length) 0) = Mt.str (Mt.filled l) from Mt.str_append _ _)
  have HS : Hid (∀ (u : World), Calls Tryz.prog 89 #[.string (Mt.str (Mt.filled l))] u fun e w' => e = .returned (.int .u32 ((Mt.addS 0 (Mt.filled l) : Nat) : Int)) ∧ u = w') := Lib.hid (fun u => rsum_any (Mt.str (Mt.filled l)) u (by rw [Mt.str_size, Mt.filled_length l hl]; omega))
  have HP := Lib.hid (fun u => rputb_any (Mt.addS 0 (Mt.filled l)) 4 u (by omega) (by omega) (by have := Mt.addS_lt 0 (Mt.filled l); omega))
  have HQ := Lib.hid (show Mt.str (Mt.bb (Mt.addS 0 (Mt.filled l)) 4) ++ Mt.str (Mt.filled l) = Mt.str (Mt.sealL l) from Mt.str_append _ _)
  have hz := Mt.str_size l
  have hn : ((124 : Int) - (l.length : Int)) = ((124 - l.length : Nat) : Int) := by omega
  have HZ := Lib.hid hz
  have HN := Lib.hid hn
  have HLT := Lib.hid (Mt.addS_lt 0 (Mt.filled l))
  have hls : (Mt.str l).size ≤ 124 := by rw [hz]; exact hl
  clear hz hn hl
  have hd124 : (124 : Int) - ((Mt.str l).size : Int) = (124 : Int) - (l.length : Int) := by rw [HZ.out]
  have HD := Lib.hid hd124
  clear hd124
  go_enter Tryz.func73, Tryz.ntmps73
  go_wp2_with fail
  rw [HD.out, HN.out]
  refine (HREP.out _).mono ?_
  rintro e w1 ⟨rfl, hb1⟩
  have HB1 := Lib.hid hb1
  have hrs : (Mt.str (List.replicate (124 - l.length) 0)).size ≤ 124 := by rw [Mt.str_size, List.length_replicate]; omega
  clear hb1
  go_wp2_with fail
  rw [HF.out]
  refine (HS.out _).mono ?_
  rintro e w2 ⟨rfl, rfl⟩
  have hfs : (Mt.str (Mt.filled l)).size ≤ 124 := by rw [Mt.str_size, HL.out]; omega
  have hw : IntKind.u64.wrap ((Mt.addS 0 (Mt.filled l) : Nat) : Int) = ((Mt.addS 0 (Mt.filled l) : Nat) : Int) := by
    have := HLT.out
    simp [IntKind.wrap, IntKind.bits, IntKind.signed]; omega
  go_wp2_with fail
  refine (HP.out _).mono ?_
  rintro e w3 ⟨rfl, hb3⟩
  have HB3 := Lib.hid (HB1.out.trans (hb3.mono HB1.out.size))
  have hps : (Mt.str (Mt.bb (Mt.addS 0 (Mt.filled l)) 4)).size ≤ 4 := by rw [Mt.str_size, Mt.bb_length]; omega
  clear hb3 hw
  go_wp2_with fail
  rw [HQ.out]
  go_ret
  exact ⟨rfl, HB3.out⟩
set_option maxRecDepth 100000 in
theorem rhead_any (g k : Nat) (hg : g < 4294967296) (hk : k < 256) (w : World) : Calls Tryz.prog 52 #[.int .i64 (g : Int), .int .i64 (k : Int)] w fun e w' => e = .returned (.string (Mt.str (Mt.hdSector g k))) ∧ Below w.heap.size w w' := by
  have HP1 := Lib.hid (fun u => rputb_any g 4 u (by omega) (by omega) (by omega))
  have HP2 := Lib.hid (fun u => rputb_any k 1 u (by omega) (by omega) (by omega))
  have HSEAL := Lib.hid (fun u => rseal_any ([72] ++ (Mt.bb g 4 ++ Mt.bb k 1)) u (by simp [Mt.bb_length]))
  have w1 := Mt.u64_nat g (by omega)
  have w2 := Mt.u64_nat k (by omega)
  have z1 : (Mt.str (Mt.bb g 4)).size = 4 := by rw [Mt.str_size, Mt.bb_length]
  have z2 : (Mt.str (Mt.bb k 1)).size = 1 := by rw [Mt.str_size, Mt.bb_length]
  have HE := Lib.hid (show (⟨#[72]⟩ : ByteArray) ++ Mt.str (Mt.bb g 4) ++ Mt.str (Mt.bb k 1) = Mt.str ([72] ++ (Mt.bb g 4 ++ Mt.bb k 1)) by
    apply ByteArray.ext; apply Array.ext'; simp [Mt.str])
  have HR := Lib.hid (show Mt.sealL ([72] ++ (Mt.bb g 4 ++ Mt.bb k 1)) = Mt.hdSector g k from rfl)
  rw [HR.out] at HSEAL
  generalize Mt.str ([72] ++ (Mt.bb g 4 ++ Mt.bb k 1)) = S at *
  generalize Mt.str (Mt.bb g 4) = P1 at *
  generalize Mt.str (Mt.bb k 1) = P2 at *
  obtain ⟨S1, e1⟩ : ∃ S, (⟨#[72]⟩ : ByteArray) ++ P1 = S := ⟨_, rfl⟩
  rw [e1] at HE
  have z0 : (⟨#[72]⟩ : ByteArray).size = 1 := rfl
  have t1 : ¬ (9223372036854775807 < 1 + P1.size) := by omega
  have t2 : ¬ (9223372036854775807 < S1.size + P2.size) := by rw [← e1, ByteArray.size_append]; omega
  have HE1 := Lib.hid e1
  clear z0 z1 z2 hg hk e1
  go_enter Tryz.func52, Tryz.ntmps52
  go_wp2_with fail
  refine (HP1.out _).mono ?_
  rintro e w3 ⟨rfl, hb3⟩
  have HB3 := Lib.hid hb3
  clear hb3
  go_wp2_with fail
  rw [HE1.out]
  refine (HP2.out _).mono ?_
  rintro e w4 ⟨rfl, hb4⟩
  have HB4 := Lib.hid (HB3.out.trans (hb4.mono HB3.out.size))
  clear hb4
  go_wp2_with fail
  rw [HE.out]
  refine (HSEAL.out _).mono ?_
  rintro e w5 ⟨rfl, hb5⟩
  have HB5 := Lib.hid (HB4.out.trans (hb5.mono HB4.out.size))
  clear hb5
  go_wp2_with fail
  go_ret
  exact ⟨rfl, HB5.out⟩
set_option maxRecDepth 100000 in
set_option maxHeartbeats 1000000 in
theorem rsector_any (c : Mt.Cl) (hf : c.Fits) (w : World) : Calls Tryz.prog 70 #[.agg (rclV c)] w fun e w' => e = .returned (.string (Mt.str c.sector)) ∧ Below w.heap.size w w' := by
  have HSEAL := Lib.hid (fun u => rseal_any c.front u (by rw [Mt.Cl.front_length]; have := hf.body; omega))
  have HFR := Lib.hid (show Mt.str c.front = (⟨#[67]⟩ : ByteArray) ++ Mt.str (Mt.bb c.gen 4) ++ Mt.str (Mt.bb c.number 4) ++ Mt.str (Mt.bb c.part 2) ++ Mt.str (Mt.bb c.parts 2) ++ Mt.str (Mt.bb c.body.length 1) ++ Mt.str c.body by
    apply ByteArray.ext; apply Array.ext'; simp [Mt.str, Mt.Cl.front])
  have HFL := Lib.hid (show (Mt.str c.front).size ≤ 124 by rw [Mt.str_size, Mt.Cl.front_length]; have := hf.body; omega)
  have HSX := Lib.hid (show Mt.sealL c.front = c.sector from rfl)
  obtain ⟨g, n, p, q, b⟩ := c
  obtain ⟨h1, h2, h3, h4, h5⟩ := hf
  simp only at h1 h2 h3 h4 h5 HSEAL HFR HFL HSX
  generalize (Mt.Cl.mk g n p q b).front = F at *
  unfold rclV
  simp only
  generalize (Mt.Cl.mk g n p q b).sector = R at *
  rw [HSX.out] at HSEAL
  clear HSX
  have HP1 : Hid (∀ u, Calls Tryz.prog 74 #[.int .u64 (g : Int), .int .i64 4] u fun e w' => e = .returned (.string (Mt.str (Mt.bb g 4))) ∧ Below u.heap.size u w') := Lib.hid (fun u => rputb_any g 4 u (by omega) (by omega) (by omega))
  have HP2 : Hid (∀ u, Calls Tryz.prog 74 #[.int .u64 (n : Int), .int .i64 4] u fun e w' => e = .returned (.string (Mt.str (Mt.bb n 4))) ∧ Below u.heap.size u w') := Lib.hid (fun u => rputb_any n 4 u (by omega) (by omega) (by omega))
  have HP3 : Hid (∀ u, Calls Tryz.prog 74 #[.int .u64 (p : Int), .int .i64 2] u fun e w' => e = .returned (.string (Mt.str (Mt.bb p 2))) ∧ Below u.heap.size u w') := Lib.hid (fun u => rputb_any p 2 u (by omega) (by omega) (by omega))
  have HP4 : Hid (∀ u, Calls Tryz.prog 74 #[.int .u64 (q : Int), .int .i64 2] u fun e w' => e = .returned (.string (Mt.str (Mt.bb q 2))) ∧ Below u.heap.size u w') := Lib.hid (fun u => rputb_any q 2 u (by omega) (by omega) (by omega))
  have HP5 : Hid (∀ u, Calls Tryz.prog 74 #[.int .u64 (b.length : Int), .int .i64 1] u fun e w' => e = .returned (.string (Mt.str (Mt.bb b.length 1))) ∧ Below u.heap.size u w') := Lib.hid (fun u => rputb_any b.length 1 u (by omega) (by omega) (by omega))
  have w1 := Mt.u64_nat g (by omega)
  have w2 := Mt.u64_nat n (by omega)
  have w3 := Mt.u64_nat p (by omega)
  have w4 := Mt.u64_nat q (by omega)
  have w5 := Mt.u64_nat b.length (by omega)
  have z1 : (Mt.str (Mt.bb g 4)).size = 4 := by rw [Mt.str_size, Mt.bb_length]
  have z2 : (Mt.str (Mt.bb n 4)).size = 4 := by rw [Mt.str_size, Mt.bb_length]
  have z3 : (Mt.str (Mt.bb p 2)).size = 2 := by rw [Mt.str_size, Mt.bb_length]
  have z4 : (Mt.str (Mt.bb q 2)).size = 2 := by rw [Mt.str_size, Mt.bb_length]
  have z5 : (Mt.str (Mt.bb b.length 1)).size = 1 := by rw [Mt.str_size, Mt.bb_length]
  have z6 : (Mt.str b).size = b.length := Mt.str_size b
  generalize Mt.str (Mt.bb g 4) = P1 at *
  generalize Mt.str (Mt.bb n 4) = P2 at *
  generalize Mt.str (Mt.bb p 2) = P3 at *
  generalize Mt.str (Mt.bb q 2) = P4 at *
  generalize Mt.str (Mt.bb b.length 1) = P5 at *
  generalize Mt.str b = P6 at *
  have z0 : (⟨#[67]⟩ : ByteArray).size = 1 := rfl
  obtain ⟨S1, e1⟩ : ∃ S, (⟨#[67]⟩ : ByteArray) ++ P1 = S := ⟨_, rfl⟩
  obtain ⟨S2, e2⟩ : ∃ S, S1 ++ P2 = S := ⟨_, rfl⟩
  obtain ⟨S3, e3⟩ : ∃ S, S2 ++ P3 = S := ⟨_, rfl⟩
  obtain ⟨S4, e4⟩ : ∃ S, S3 ++ P4 = S := ⟨_, rfl⟩
  obtain ⟨S5, e5⟩ : ∃ S, S4 ++ P5 = S := ⟨_, rfl⟩
  have e6 : S5 ++ P6 = Mt.str F := by rw [HFR.out, ← e5, ← e4, ← e3, ← e2, ← e1]
  have y1 : S1.size ≤ 124 := by rw [← e1, ByteArray.size_append]; omega
  have y2 : S2.size ≤ 124 := by rw [← e2, ← e1]; simp only [ByteArray.size_append]; omega
  have y3 : S3.size ≤ 124 := by rw [← e3, ← e2, ← e1]; simp only [ByteArray.size_append]; omega
  have y4 : S4.size ≤ 124 := by rw [← e4, ← e3, ← e2, ← e1]; simp only [ByteArray.size_append]; omega
  have y5 : S5.size ≤ 124 := by rw [← e5, ← e4, ← e3, ← e2, ← e1]; simp only [ByteArray.size_append]; omega
  have x1 : P1.size ≤ 124 := by omega
  have x2 : P2.size ≤ 124 := by omega
  have x3 : P3.size ≤ 124 := by omega
  have x4 : P4.size ≤ 124 := by omega
  have x5 : P5.size ≤ 124 := by omega
  have x6 : P6.size ≤ 124 := by omega
  have t1 : ¬ (9223372036854775807 < 1 + P1.size) := by omega
  have t2 : ¬ (9223372036854775807 < S1.size + P2.size) := by omega
  have t3 : ¬ (9223372036854775807 < S2.size + P3.size) := by omega
  have t4 : ¬ (9223372036854775807 < S3.size + P4.size) := by omega
  have t5 : ¬ (9223372036854775807 < S4.size + P5.size) := by omega
  have t6 : ¬ (9223372036854775807 < S5.size + P6.size) := by omega
  have l6 : (P6.size : Int) = (b.length : Int) := by omega
  clear z0 z1 z2 z3 z4 z5 HFR z6 h1 h2 h3 h4 h5 x1 x2 x3 x4 x5 x6 y1 y2 y3 y4 y5
  have HA := Lib.hid ((Below.refl w.heap.size w).alloc (Nat.le_refl _) (.cells #[.int .i64 (g : Int), .int .i64 (n : Int), .int .i64 (p : Int), .int .i64 (q : Int), .string P6] 86))
  have HC := Lib.hid (fun u (hu : Below (w.alloc (.cells #[.int .i64 (g : Int), .int .i64 (n : Int), .int .i64 (p : Int), .int .i64 (q : Int), .string P6] 86)).heap.size (w.alloc (.cells #[.int .i64 (g : Int), .int .i64 (n : Int), .int .i64 (p : Int), .int .i64 (q : Int), .string P6] 86)) u) => box5_of (alloc5 w _ _ _ _ _ _ u hu))
  have HK := Lib.hid ((Below.refl (w.alloc (.cells #[.int .i64 (g : Int), .int .i64 (n : Int), .int .i64 (p : Int), .int .i64 (q : Int), .string P6] 86)).heap.size (w.alloc (.cells #[.int .i64 (g : Int), .int .i64 (n : Int), .int .i64 (p : Int), .int .i64 (q : Int), .string P6] 86))).drew)
  obtain ⟨c0, c1, c2, c3, c4⟩ := HC.out _ (Below.refl _ _)
  go_enter Tryz.func70, Tryz.ntmps70
  go_upto_region 1 with fail
  go_region_held3 (fun w' => w'.cell? ⟨w.heap.size, 0, none⟩ = some (.int .i64 (g : Int)) ∧ w'.cell? ⟨w.heap.size, 1, none⟩ = some (.int .i64 (n : Int)) ∧ w'.cell? ⟨w.heap.size, 2, none⟩ = some (.int .i64 (p : Int)) ∧ w'.cell? ⟨w.heap.size, 3, none⟩ = some (.int .i64 (q : Int)) ∧ w'.cell? ⟨w.heap.size, 4, none⟩ = some (.string P6))
    (first
      | go_keep
      | exact qq)
    (first
      | (go_at_call 74; (with_reducible refine (HP1.out _).mono ?_); rintro e w2 ⟨rfl, hb⟩; have HK := Lib.hid (HK.out.trans (hb.mono HK.out.size)); have qq := HC.out _ HK.out; clear hb)
      | (go_at_call 74; (with_reducible refine (HP2.out _).mono ?_); rintro e w2 ⟨rfl, hb⟩; have HK := Lib.hid (HK.out.trans (hb.mono HK.out.size)); have qq := HC.out _ HK.out; clear hb)
      | (go_at_call 74; (with_reducible refine (HP3.out _).mono ?_); rintro e w2 ⟨rfl, hb⟩; have HK := Lib.hid (HK.out.trans (hb.mono HK.out.size)); have qq := HC.out _ HK.out; clear hb)
      | (go_at_call 74; (with_reducible refine (HP4.out _).mono ?_); rintro e w2 ⟨rfl, hb⟩; have HK := Lib.hid (HK.out.trans (hb.mono HK.out.size)); have qq := HC.out _ HK.out; clear hb)
      | (go_at_call 74; (with_reducible refine (HP5.out _).mono ?_); rintro e w2 ⟨rfl, hb⟩; have HK := Lib.hid (HK.out.trans (hb.mono HK.out.size)); have qq := HC.out _ HK.out; clear hb)
      | (go_at_call 73; (with_reducible refine (HSEAL.out _).mono ?_); rintro e w2 ⟨rfl, hb⟩; have HK := Lib.hid (HK.out.trans (hb.mono HK.out.size)); have qq := HC.out _ HK.out; clear hb))
  go_wp2_with fail
  go_ret
  exact ⟨rfl, HA.out.trans (HK.out.mono HA.out.size)⟩
end Go.Proofs.YtnioagojiipjlaaGreat
