/-
  A cell's and a head's bytes.
-/
import Derived.Test.YtmahkgkhnpffeaaJrC
namespace Go.Proofs.Ytmahkgkhnpffeaa
open Go.RowKit

theorem Mt.u64_nat (n : Nat) (h : n < 18446744073709551616) : IntKind.u64.wrap (n : Int) = (n : Int) := by
  simp [IntKind.wrap, IntKind.bits, IntKind.signed]; omega
set_option maxRecDepth 100000 in
set_option maxHeartbeats 1000000 in
theorem csector_any (c : Mt.Cl) (hf : c.Fits) (w : World) : Calls Try.prog 41 #[.agg (clV c)] w fun e w' => e = .returned (.string (Mt.str c.sector)) ∧ Below w.heap.size w w' := by
  have HSEAL := Lib.hid (fun u => seal_any c.front u (by rw [Mt.Cl.front_length]; have := hf.body; omega))
  have HFR := Lib.hid (show Mt.str c.front = (⟨#[67]⟩ : ByteArray) ++ Mt.str (Mt.bb c.gen 4) ++ Mt.str (Mt.bb c.number 4) ++ Mt.str (Mt.bb c.part 2) ++ Mt.str (Mt.bb c.parts 2) ++ Mt.str (Mt.bb c.body.length 1) ++ Mt.str c.body by
    apply ByteArray.ext; apply Array.ext'; simp [Mt.str, Mt.Cl.front])
  have HFL := Lib.hid (show (Mt.str c.front).size ≤ 124 by rw [Mt.str_size, Mt.Cl.front_length]; have := hf.body; omega)
  have HSX := Lib.hid (show Mt.sealL c.front = c.sector from rfl)
  obtain ⟨g, n, p, q, b⟩ := c
  obtain ⟨h1, h2, h3, h4, h5⟩ := hf
  simp only at h1 h2 h3 h4 h5 HSEAL HFR HFL HSX
  generalize (Mt.Cl.mk g n p q b).front = F at *
  unfold clV
  simp only
  generalize (Mt.Cl.mk g n p q b).sector = R at *
  rw [HSX.out] at HSEAL
  clear HSX
  have HP1 : Hid (∀ u, Calls Try.prog 53 #[.int .u64 (g : Int), .int .i64 4] u fun e w' => e = .returned (.string (Mt.str (Mt.bb g 4))) ∧ Below u.heap.size u w') := Lib.hid (fun u => putb_any g 4 u (by omega) (by omega))
  have HP2 : Hid (∀ u, Calls Try.prog 53 #[.int .u64 (n : Int), .int .i64 4] u fun e w' => e = .returned (.string (Mt.str (Mt.bb n 4))) ∧ Below u.heap.size u w') := Lib.hid (fun u => putb_any n 4 u (by omega) (by omega))
  have HP3 : Hid (∀ u, Calls Try.prog 53 #[.int .u64 (p : Int), .int .i64 2] u fun e w' => e = .returned (.string (Mt.str (Mt.bb p 2))) ∧ Below u.heap.size u w') := Lib.hid (fun u => putb_any p 2 u (by omega) (by omega))
  have HP4 : Hid (∀ u, Calls Try.prog 53 #[.int .u64 (q : Int), .int .i64 2] u fun e w' => e = .returned (.string (Mt.str (Mt.bb q 2))) ∧ Below u.heap.size u w') := Lib.hid (fun u => putb_any q 2 u (by omega) (by omega))
  have HP5 : Hid (∀ u, Calls Try.prog 53 #[.int .u64 (b.length : Int), .int .i64 1] u fun e w' => e = .returned (.string (Mt.str (Mt.bb b.length 1))) ∧ Below u.heap.size u w') := Lib.hid (fun u => putb_any b.length 1 u (by omega) (by omega))
  have w3 := Mt.u64_nat p (by omega)
  have w4 := Mt.u64_nat q (by omega)
  have w5 := Mt.u64_nat b.length (by omega)
  have z1 : (Mt.str (Mt.bb g 4)).size = 4 := by rw [Mt.str_size, Mt.bb_length]
  have z2 : (Mt.str (Mt.bb n 4)).size = 4 := by rw [Mt.str_size, Mt.bb_length]
  have z3 : (Mt.str (Mt.bb p 2)).size = 2 := by rw [Mt.str_size, Mt.bb_length]
  have z4 : (Mt.str (Mt.bb q 2)).size = 2 := by rw [Mt.str_size, Mt.bb_length]
  have z5 : (Mt.str (Mt.bb b.length 1)).size = 1 := by rw [Mt.str_size, Mt.bb_length]
  have z6 : (Mt.str b).size = b.length := Mt.str_size b
  generalize Mt.str (Mt.bb g 4) = P1 at *
  generalize Mt.str (Mt.bb n 4) = P2 at *
  generalize Mt.str (Mt.bb p 2) = P3 at *
  generalize Mt.str (Mt.bb q 2) = P4 at *
  generalize Mt.str (Mt.bb b.length 1) = P5 at *
  generalize Mt.str b = P6 at *
  have z0 : (⟨#[67]⟩ : ByteArray).size = 1 := rfl
  obtain ⟨S1, e1⟩ : ∃ S, (⟨#[67]⟩ : ByteArray) ++ P1 = S := ⟨_, rfl⟩
  obtain ⟨S2, e2⟩ : ∃ S, S1 ++ P2 = S := ⟨_, rfl⟩
  obtain ⟨S3, e3⟩ : ∃ S, S2 ++ P3 = S := ⟨_, rfl⟩
  obtain ⟨S4, e4⟩ : ∃ S, S3 ++ P4 = S := ⟨_, rfl⟩
  obtain ⟨S5, e5⟩ : ∃ S, S4 ++ P5 = S := ⟨_, rfl⟩
  have e6 : S5 ++ P6 = Mt.str F := by rw [HFR.out, ← e5, ← e4, ← e3, ← e2, ← e1]
  have y1 : S1.size ≤ 124 := by rw [← e1, ByteArray.size_append]; omega
  have y2 : S2.size ≤ 124 := by rw [← e2, ← e1]; simp only [ByteArray.size_append]; omega
  have y3 : S3.size ≤ 124 := by rw [← e3, ← e2, ← e1]; simp only [ByteArray.size_append]; omega
  have y4 : S4.size ≤ 124 := by rw [← e4, ← e3, ← e2, ← e1]; simp only [ByteArray.size_append]; omega
  have y5 : S5.size ≤ 124 := by rw [← e5, ← e4, ← e3, ← e2, ← e1]; simp only [ByteArray.size_append]; omega
  have x1 : P1.size ≤ 124 := by omega
  have x2 : P2.size ≤ 124 := by omega
  have x3 : P3.size ≤ 124 := by omega
  have x4 : P4.size ≤ 124 := by omega
  have x5 : P5.size ≤ 124 := by omega
  have x6 : P6.size ≤ 124 := by omega
  have t1 : ¬ (9223372036854775807 < 1 + P1.size) := by omega
  have t2 : ¬ (9223372036854775807 < S1.size + P2.size) := by omega
  have t3 : ¬ (9223372036854775807 < S2.size + P3.size) := by omega
  have t4 : ¬ (9223372036854775807 < S3.size + P4.size) := by omega
  have t5 : ¬ (9223372036854775807 < S4.size + P5.size) := by omega
  have t6 : ¬ (9223372036854775807 < S5.size + P6.size) := by omega
  have l6 : (P6.size : Int) = (b.length : Int) := by omega
  clear z0 z1 z2 z3 z4 z5 HFR z6 h1 h2 h3 h4 h5 x1 x2 x3 x4 x5 x6 y1 y2 y3 y4 y5
  have HA := Lib.hid ((Below.refl w.heap.size w).alloc (Nat.le_refl _) (.cells #[.int .u64 (g : Int), .int .u64 (n : Int), .int .i64 (p : Int), .int .i64 (q : Int), .string P6] 65))
  have HC := Lib.hid (fun u (hu : Below (w.alloc (.cells #[.int .u64 (g : Int), .int .u64 (n : Int), .int .i64 (p : Int), .int .i64 (q : Int), .string P6] 65)).heap.size (w.alloc (.cells #[.int .u64 (g : Int), .int .u64 (n : Int), .int .i64 (p : Int), .int .i64 (q : Int), .string P6] 65)) u) => box5_of (alloc5 w _ _ _ _ _ _ u hu))
  have HK := Lib.hid ((Below.refl (w.alloc (.cells #[.int .u64 (g : Int), .int .u64 (n : Int), .int .i64 (p : Int), .int .i64 (q : Int), .string P6] 65)).heap.size (w.alloc (.cells #[.int .u64 (g : Int), .int .u64 (n : Int), .int .i64 (p : Int), .int .i64 (q : Int), .string P6] 65))).drew)
  obtain ⟨c0, c1, c2, c3, c4⟩ := HC.out _ (Below.refl _ _)
  go_enter Try.func41, Try.ntmps41
  go_upto_region 1 with fail
  go_region_held3 (fun w' => w'.cell? ⟨w.heap.size, 0, none⟩ = some (.int .u64 (g : Int)) ∧ w'.cell? ⟨w.heap.size, 1, none⟩ = some (.int .u64 (n : Int)) ∧ w'.cell? ⟨w.heap.size, 2, none⟩ = some (.int .i64 (p : Int)) ∧ w'.cell? ⟨w.heap.size, 3, none⟩ = some (.int .i64 (q : Int)) ∧ w'.cell? ⟨w.heap.size, 4, none⟩ = some (.string P6))
    (first
      | go_keep
      | exact qq)
    (first
      | (go_at_call 53; (with_reducible refine (HP1.out _).mono ?_); rintro e w2 ⟨rfl, hb⟩; have HK := Lib.hid (HK.out.trans (hb.mono HK.out.size)); have qq := HC.out _ HK.out; clear hb)
      | (go_at_call 53; (with_reducible refine (HP2.out _).mono ?_); rintro e w2 ⟨rfl, hb⟩; have HK := Lib.hid (HK.out.trans (hb.mono HK.out.size)); have qq := HC.out _ HK.out; clear hb)
      | (go_at_call 53; (with_reducible refine (HP3.out _).mono ?_); rintro e w2 ⟨rfl, hb⟩; have HK := Lib.hid (HK.out.trans (hb.mono HK.out.size)); have qq := HC.out _ HK.out; clear hb)
      | (go_at_call 53; (with_reducible refine (HP4.out _).mono ?_); rintro e w2 ⟨rfl, hb⟩; have HK := Lib.hid (HK.out.trans (hb.mono HK.out.size)); have qq := HC.out _ HK.out; clear hb)
      | (go_at_call 53; (with_reducible refine (HP5.out _).mono ?_); rintro e w2 ⟨rfl, hb⟩; have HK := Lib.hid (HK.out.trans (hb.mono HK.out.size)); have qq := HC.out _ HK.out; clear hb)
      | (go_at_call 52; (with_reducible refine (HSEAL.out _).mono ?_); rintro e w2 ⟨rfl, hb⟩; have HK := Lib.hid (HK.out.trans (hb.mono HK.out.size)); have qq := HC.out _ HK.out; clear hb))
  go_wp2_with fail
  go_ret
  exact ⟨rfl, HA.out.trans (HK.out.mono HA.out.size)⟩
end Go.Proofs.Ytmahkgkhnpffeaa
