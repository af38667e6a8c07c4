/-
  Some texts of one proof, one behind the other.
-/
import Derived.Deep.RegionHeld3
import Derived.Test.YtnioagojiipjlaaGreatPk5
import Derived.Test.YtnioagojiipjlaaGreatPk6
import Derived.Test.YtnioagojiipjlaaGreatPk7
set_option linter.unusedVariables false
set_option linter.unusedSimpArgs false

/-
  What the journal's sectors come to: seal, a cell's and a head's bytes.
-/
namespace Go.Proofs.YtnioagojiipjlaaGreat
open Go.RowKit

theorem Tryz.repX : Builder.Extra Tryz.prog Tryz.repA_ren where
  sizeBuilder := by kernel_rfl
  liesBuilder := by kernel_rfl
  t5 := Tryz.underlying5
  a5 := Tryz.isAgg5
  z5 := Tryz.sizeOf5
  v5 := Tryz.zeroValue5
  infoByte := by kernel_rfl
  cellsByte := by kernel_rfl
  sizeByte := by kernel_rfl
  neB5 := by decide
theorem Mt.rep_one (x : UInt8) : ∀ n, Lib.repeatL [x] n = List.replicate n x
  | 0 => rfl
  | n + 1 => by
    have := Mt.rep_one x n
    simp [Lib.repeatL, List.replicate_succ] at this ⊢
    try exact this
theorem rep_any (n : Nat) (w : World) (hn : n ≤ 1000) : Calls Tryz.prog 102 #[.string ⟨#[0]⟩, .int .i64 n] w fun e w' => e = .returned (.string (Mt.str (List.replicate n 0))) ∧ Below w.heap.size w w' := by
  have h := Any.strings_Repeat Tryz.repA Tryz.repX ⟨#[0]⟩ n w (by omega) (by have : (ByteArray.mk #[0]).size = 1 := rfl; rw [this]; omega)
  have e : (ByteArray.mk #[0]).data.toList = [0] := rfl
  rw [e, Mt.rep_one] at h
  exact h
/-- Texts behind each other. -/
theorem Mt.str_append (a b : List UInt8) : Mt.str a ++ Mt.str b = Mt.str (a ++ b) := by
  apply ByteArray.ext
  simp [Mt.str]
theorem putb_any (n size : Nat) (w : World) (h1 : 1 ≤ size) (h2 : size ≤ 8) : Calls Tryz.prog 94 #[.int .u64 n, .int .i64 size] w fun e w' => e = .returned (.string (Mt.str (Mt.bb n size))) ∧ Below w.heap.size w w' := put_yes n size w h1 h2
set_option maxRecDepth 100000 in
theorem seal_any (l : List UInt8) (w : World) (hl : l.length ≤ 124) : Calls Tryz.prog 93 #[.string (Mt.str l)] w fun e w' => e = .returned (.string (Mt.str (Mt.sealL l))) ∧ Below w.heap.size w w' := by
  have HREP := Lib.hid (fun u => rep_any (124 - l.length) u (by omega))
  have HL := Lib.hid (Mt.filled_length l hl)
  have HF := Lib.hid (show Mt.str l ++ Mt.str (List.replicate (124 - l.length) 0) = Mt.str (Mt.filled l) from Mt.str_append _ _)
  have HS : Hid (∀ (B : Nat) (u : World), B = u.heap.size → Calls Tryz.prog 103 #[.slice (some ⟨B, 0, none⟩) 1 1] (u.alloc (.cells #[.string (Mt.str (Mt.filled l))] 9)) fun e w' => e = .returned (.int .u32 ((Mt.addS 0 (Mt.filled l) : Nat) : Int)) ∧ (u.alloc (.cells #[.string (Mt.str (Mt.filled l))] 9)) = w') := Lib.hid (fun B u hB => sum_one (Mt.str (Mt.filled l)) B u hB (by rw [Mt.str_size, Mt.filled_length l hl]; omega))
  have HP := Lib.hid (fun u => putb_any (Mt.addS 0 (Mt.filled l)) 4 u (by omega) (by omega))
  have HQ := Lib.hid (show Mt.str (Mt.bb (Mt.addS 0 (Mt.filled l)) 4) ++ Mt.str (Mt.filled l) = Mt.str (Mt.sealL l) from Mt.str_append _ _)
  have hz := Mt.str_size l
  have hn : ((124 : Int) - (l.length : Int)) = ((124 - l.length : Nat) : Int) := by omega
  have HZ := Lib.hid hz
  have HN := Lib.hid hn
  have HLT := Lib.hid (Mt.addS_lt 0 (Mt.filled l))
  have hls : (Mt.str l).size ≤ 124 := by rw [hz]; exact hl
  clear hz hn hl
  have hd124 : (124 : Int) - ((Mt.str l).size : Int) = (124 : Int) - (l.length : Int) := by rw [HZ.out]
  have HD := Lib.hid hd124
  clear hd124
  go_enter Tryz.func93, Tryz.ntmps93
  go_wp2_with fail
  rw [HD.out, HN.out]
  refine (HREP.out _).mono ?_
  rintro e w1 ⟨rfl, hb1⟩
  have HB1 := Lib.hid hb1
  have hrs : (Mt.str (List.replicate (124 - l.length) 0)).size ≤ 124 := by rw [Mt.str_size, List.length_replicate]; omega
  clear hb1
  go_wp2_with fail
  rw [HF.out]
  refine (HS.out _ _ rfl).mono ?_
  rintro e w2 ⟨rfl, rfl⟩
  have hfs : (Mt.str (Mt.filled l)).size ≤ 124 := by rw [Mt.str_size, HL.out]; omega
  have HB2 := Lib.hid (HB1.out.alloc HB1.out.size (.cells #[.string (Mt.str (Mt.filled l))] 9))
  have hw : IntKind.u64.wrap ((Mt.addS 0 (Mt.filled l) : Nat) : Int) = ((Mt.addS 0 (Mt.filled l) : Nat) : Int) := by
    have := HLT.out
    simp [IntKind.wrap, IntKind.bits, IntKind.signed]; omega
  go_wp2_with fail
  refine (HP.out _).mono ?_
  rintro e w3 ⟨rfl, hb3⟩
  have HB3 := Lib.hid (HB2.out.trans (hb3.mono HB2.out.size))
  have hps : (Mt.str (Mt.bb (Mt.addS 0 (Mt.filled l)) 4)).size ≤ 4 := by rw [Mt.str_size, Mt.bb_length]; omega
  clear hb3 hw
  go_wp2_with fail
  rw [HQ.out]
  go_ret
  exact ⟨rfl, HB3.out⟩
end Go.Proofs.YtnioagojiipjlaaGreat

/-
  A cell's and a head's bytes.
-/
namespace Go.Proofs.YtnioagojiipjlaaGreat
open Go.RowKit

theorem Mt.u64_nat (n : Nat) (h : n < 18446744073709551616) : IntKind.u64.wrap (n : Int) = (n : Int) := by
  simp [IntKind.wrap, IntKind.bits, IntKind.signed]; omega
set_option maxRecDepth 100000 in
set_option maxHeartbeats 1000000 in
theorem csector_any (c : Mt.Cl) (hf : c.Fits) (w : World) : Calls Tryz.prog 79 #[.agg (clV c)] w fun e w' => e = .returned (.string (Mt.str c.sector)) ∧ Below w.heap.size w w' := by
  have HSEAL := Lib.hid (fun u => seal_any c.front u (by rw [Mt.Cl.front_length]; have := hf.body; omega))
  have HFR := Lib.hid (show Mt.str c.front = (⟨#[67]⟩ : ByteArray) ++ Mt.str (Mt.bb c.gen 4) ++ Mt.str (Mt.bb c.number 4) ++ Mt.str (Mt.bb c.part 2) ++ Mt.str (Mt.bb c.parts 2) ++ Mt.str (Mt.bb c.body.length 1) ++ Mt.str c.body by
    apply ByteArray.ext; apply Array.ext'; simp [Mt.str, Mt.Cl.front])
  have HFL := Lib.hid (show (Mt.str c.front).size ≤ 124 by rw [Mt.str_size, Mt.Cl.front_length]; have := hf.body; omega)
  have HSX := Lib.hid (show Mt.sealL c.front = c.sector from rfl)
  obtain ⟨g, n, p, q, b⟩ := c
  obtain ⟨h1, h2, h3, h4, h5⟩ := hf
  simp only at h1 h2 h3 h4 h5 HSEAL HFR HFL HSX
  generalize (Mt.Cl.mk g n p q b).front = F at *
  unfold clV
  simp only
  generalize (Mt.Cl.mk g n p q b).sector = R at *
  rw [HSX.out] at HSEAL
  clear HSX
  have HP1 : Hid (∀ u, Calls Tryz.prog 94 #[.int .u64 (g : Int), .int .i64 4] u fun e w' => e = .returned (.string (Mt.str (Mt.bb g 4))) ∧ Below u.heap.size u w') := Lib.hid (fun u => putb_any g 4 u (by omega) (by omega))
  have HP2 : Hid (∀ u, Calls Tryz.prog 94 #[.int .u64 (n : Int), .int .i64 4] u fun e w' => e = .returned (.string (Mt.str (Mt.bb n 4))) ∧ Below u.heap.size u w') := Lib.hid (fun u => putb_any n 4 u (by omega) (by omega))
  have HP3 : Hid (∀ u, Calls Tryz.prog 94 #[.int .u64 (p : Int), .int .i64 2] u fun e w' => e = .returned (.string (Mt.str (Mt.bb p 2))) ∧ Below u.heap.size u w') := Lib.hid (fun u => putb_any p 2 u (by omega) (by omega))
  have HP4 : Hid (∀ u, Calls Tryz.prog 94 #[.int .u64 (q : Int), .int .i64 2] u fun e w' => e = .returned (.string (Mt.str (Mt.bb q 2))) ∧ Below u.heap.size u w') := Lib.hid (fun u => putb_any q 2 u (by omega) (by omega))
  have HP5 : Hid (∀ u, Calls Tryz.prog 94 #[.int .u64 (b.length : Int), .int .i64 1] u fun e w' => e = .returned (.string (Mt.str (Mt.bb b.length 1))) ∧ Below u.heap.size u w') := Lib.hid (fun u => putb_any b.length 1 u (by omega) (by omega))
  have w3 := Mt.u64_nat p (by omega)
  have w4 := Mt.u64_nat q (by omega)
  have w5 := Mt.u64_nat b.length (by omega)
  have z1 : (Mt.str (Mt.bb g 4)).size = 4 := by rw [Mt.str_size, Mt.bb_length]
  have z2 : (Mt.str (Mt.bb n 4)).size = 4 := by rw [Mt.str_size, Mt.bb_length]
  have z3 : (Mt.str (Mt.bb p 2)).size = 2 := by rw [Mt.str_size, Mt.bb_length]
  have z4 : (Mt.str (Mt.bb q 2)).size = 2 := by rw [Mt.str_size, Mt.bb_length]
  have z5 : (Mt.str (Mt.bb b.length 1)).size = 1 := by rw [Mt.str_size, Mt.bb_length]
  have z6 : (Mt.str b).size = b.length := Mt.str_size b
  generalize Mt.str (Mt.bb g 4) = P1 at *
  generalize Mt.str (Mt.bb n 4) = P2 at *
  generalize Mt.str (Mt.bb p 2) = P3 at *
  generalize Mt.str (Mt.bb q 2) = P4 at *
  generalize Mt.str (Mt.bb b.length 1) = P5 at *
  generalize Mt.str b = P6 at *
  have z0 : (⟨#[67]⟩ : ByteArray).size = 1 := rfl
  obtain ⟨S1, e1⟩ : ∃ S, (⟨#[67]⟩ : ByteArray) ++ P1 = S := ⟨_, rfl⟩
  obtain ⟨S2, e2⟩ : ∃ S, S1 ++ P2 = S := ⟨_, rfl⟩
  obtain ⟨S3, e3⟩ : ∃ S, S2 ++ P3 = S := ⟨_, rfl⟩
  obtain ⟨S4, e4⟩ : ∃ S, S3 ++ P4 = S := ⟨_, rfl⟩
  obtain ⟨S5, e5⟩ : ∃ S, S4 ++ P5 = S := ⟨_, rfl⟩
  have e6 : S5 ++ P6 = Mt.str F := by rw [HFR.out, ← e5, ← e4, ← e3, ← e2, ← e1]
  have y1 : S1.size ≤ 124 := by rw [← e1, ByteArray.size_append]; omega
  have y2 : S2.size ≤ 124 := by rw [← e2, ← e1]; simp only [ByteArray.size_append]; omega
  have y3 : S3.size ≤ 124 := by rw [← e3, ← e2, ← e1]; simp only [ByteArray.size_append]; omega
  have y4 : S4.size ≤ 124 := by rw [← e4, ← e3, ← e2, ← e1]; simp only [ByteArray.size_append]; omega
  have y5 : S5.size ≤ 124 := by rw [← e5, ← e4, ← e3, ← e2, ← e1]; simp only [ByteArray.size_append]; omega
  have x1 : P1.size ≤ 124 := by omega
  have x2 : P2.size ≤ 124 := by omega
  have x3 : P3.size ≤ 124 := by omega
  have x4 : P4.size ≤ 124 := by omega
  have x5 : P5.size ≤ 124 := by omega
  have x6 : P6.size ≤ 124 := by omega
  have t1 : ¬ (9223372036854775807 < 1 + P1.size) := by omega
  have t2 : ¬ (9223372036854775807 < S1.size + P2.size) := by omega
  have t3 : ¬ (9223372036854775807 < S2.size + P3.size) := by omega
  have t4 : ¬ (9223372036854775807 < S3.size + P4.size) := by omega
  have t5 : ¬ (9223372036854775807 < S4.size + P5.size) := by omega
  have t6 : ¬ (9223372036854775807 < S5.size + P6.size) := by omega
  have l6 : (P6.size : Int) = (b.length : Int) := by omega
  clear z0 z1 z2 z3 z4 z5 HFR z6 h1 h2 h3 h4 h5 x1 x2 x3 x4 x5 x6 y1 y2 y3 y4 y5
  have HA := Lib.hid ((Below.refl w.heap.size w).alloc (Nat.le_refl _) (.cells #[.int .u64 (g : Int), .int .u64 (n : Int), .int .i64 (p : Int), .int .i64 (q : Int), .string P6] 106))
  have HC := Lib.hid (fun u (hu : Below (w.alloc (.cells #[.int .u64 (g : Int), .int .u64 (n : Int), .int .i64 (p : Int), .int .i64 (q : Int), .string P6] 106)).heap.size (w.alloc (.cells #[.int .u64 (g : Int), .int .u64 (n : Int), .int .i64 (p : Int), .int .i64 (q : Int), .string P6] 106)) u) => box5_of (alloc5 w _ _ _ _ _ _ u hu))
  have HK := Lib.hid ((Below.refl (w.alloc (.cells #[.int .u64 (g : Int), .int .u64 (n : Int), .int .i64 (p : Int), .int .i64 (q : Int), .string P6] 106)).heap.size (w.alloc (.cells #[.int .u64 (g : Int), .int .u64 (n : Int), .int .i64 (p : Int), .int .i64 (q : Int), .string P6] 106))).drew)
  obtain ⟨c0, c1, c2, c3, c4⟩ := HC.out _ (Below.refl _ _)
  go_enter Tryz.func79, Tryz.ntmps79
  go_upto_region 1 with fail
  go_region_held3 (fun w' => w'.cell? ⟨w.heap.size, 0, none⟩ = some (.int .u64 (g : Int)) ∧ w'.cell? ⟨w.heap.size, 1, none⟩ = some (.int .u64 (n : Int)) ∧ w'.cell? ⟨w.heap.size, 2, none⟩ = some (.int .i64 (p : Int)) ∧ w'.cell? ⟨w.heap.size, 3, none⟩ = some (.int .i64 (q : Int)) ∧ w'.cell? ⟨w.heap.size, 4, none⟩ = some (.string P6))
    (first
      | go_keep
      | exact qq)
    (first
      | (go_at_call 94; (with_reducible refine (HP1.out _).mono ?_); rintro e w2 ⟨rfl, hb⟩; have HK := Lib.hid (HK.out.trans (hb.mono HK.out.size)); have qq := HC.out _ HK.out; clear hb)
      | (go_at_call 94; (with_reducible refine (HP2.out _).mono ?_); rintro e w2 ⟨rfl, hb⟩; have HK := Lib.hid (HK.out.trans (hb.mono HK.out.size)); have qq := HC.out _ HK.out; clear hb)
      | (go_at_call 94; (with_reducible refine (HP3.out _).mono ?_); rintro e w2 ⟨rfl, hb⟩; have HK := Lib.hid (HK.out.trans (hb.mono HK.out.size)); have qq := HC.out _ HK.out; clear hb)
      | (go_at_call 94; (with_reducible refine (HP4.out _).mono ?_); rintro e w2 ⟨rfl, hb⟩; have HK := Lib.hid (HK.out.trans (hb.mono HK.out.size)); have qq := HC.out _ HK.out; clear hb)
      | (go_at_call 94; (with_reducible refine (HP5.out _).mono ?_); rintro e w2 ⟨rfl, hb⟩; have HK := Lib.hid (HK.out.trans (hb.mono HK.out.size)); have qq := HC.out _ HK.out; clear hb)
      | (go_at_call 93; (with_reducible refine (HSEAL.out _).mono ?_); rintro e w2 ⟨rfl, hb⟩; have HK := Lib.hid (HK.out.trans (hb.mono HK.out.size)); have qq := HC.out _ HK.out; clear hb))
  go_wp2_with fail
  go_ret
  exact ⟨rfl, HA.out.trans (HK.out.mono HA.out.size)⟩
end Go.Proofs.YtnioagojiipjlaaGreat

/-
  A head's bytes; what readHead comes to.
-/
namespace Go.Proofs.YtnioagojiipjlaaGreat
open Go.RowKit

/-- A head as a value. -/
def hdV (h : Nat × Nat) : Array Value := #[.int .u64 (h.1 : Int), .int .i64 (h.2 : Int)]
theorem marked_no (s : ByteArray) (m : UInt8) (w : World) (h : ¬ (s.size = 128 ∧ s.data.toList.getD 4 0 = m)) : Calls Tryz.prog 82 #[.string s, .string ⟨#[m]⟩] w fun e w' => e = .returned (.bool false) ∧ w = w' := by
  by_cases hs : s.size = 128
  · have := marked_any s m w hs
    rwa [decide_eq_false (fun e => h ⟨hs, e⟩)] at this
  · exact marked_short s m w hs
theorem marked_yes (s : ByteArray) (m : UInt8) (w : World) (h : s.size = 128) (h2 : s.data.toList.getD 4 0 = m) : Calls Tryz.prog 82 #[.string s, .string ⟨#[m]⟩] w fun e w' => e = .returned (.bool true) ∧ w = w' := by
  have := marked_any s m w h
  rwa [decide_eq_true h2] at this
theorem hbox_of {w : World} {b : Nat} {x y : Value} {T : TypeId} {fr : Nat × Nat} (h : w.heap[b]? = some (.cells #[x, y] T fr)) : w.cell? ⟨b, 0, none⟩ = some x ∧ w.cell? ⟨b, 1, none⟩ = some y := by
  simp [World.cell?, h]
theorem alloc2 (w : World) (x y : Value) (T : TypeId) : ∀ u', Below (w.alloc (.cells #[x, y] T)).heap.size (w.alloc (.cells #[x, y] T)) u' → u'.heap[w.heap.size]? = some (.cells #[x, y] T (0, 0)) :=
  fun u' hb => (hb.block _ (by simp)).trans (heap_alloc_new w _)

set_option maxRecDepth 100000 in
set_option maxHeartbeats 1000000 in
theorem hsector_any (g k : Nat) (hg : g < 4294967296) (hk : k < 256) (w : World) : Calls Tryz.prog 84 #[.agg (hdV (g, k))] w fun e w' => e = .returned (.string (Mt.str (Mt.hdSector g k))) ∧ Below w.heap.size w w' := by
  have HSEAL : Hid (∀ u, Calls Tryz.prog 93 #[.string (Mt.str ([72] ++ (Mt.bb g 4 ++ Mt.bb k 1)))] u fun e w' => e = .returned (.string (Mt.str (Mt.hdSector g k))) ∧ Below u.heap.size u w') := Lib.hid (fun u => seal_any ([72] ++ (Mt.bb g 4 ++ Mt.bb k 1)) u (by simp [Mt.bb_length]))
  have HFR := Lib.hid (show Mt.str ([72] ++ (Mt.bb g 4 ++ Mt.bb k 1)) = (⟨#[72]⟩ : ByteArray) ++ Mt.str (Mt.bb g 4) ++ Mt.str (Mt.bb k 1) by
    apply ByteArray.ext; apply Array.ext'; simp [Mt.str])
  generalize Mt.str ([72] ++ (Mt.bb g 4 ++ Mt.bb k 1)) = F at *
  generalize Mt.str (Mt.hdSector g k) = R at *
  have HP1 : Hid (∀ u, Calls Tryz.prog 94 #[.int .u64 (g : Int), .int .i64 4] u fun e w' => e = .returned (.string (Mt.str (Mt.bb g 4))) ∧ Below u.heap.size u w') := Lib.hid (fun u => putb_any g 4 u (by omega) (by omega))
  have HP2 : Hid (∀ u, Calls Tryz.prog 94 #[.int .u64 (k : Int), .int .i64 1] u fun e w' => e = .returned (.string (Mt.str (Mt.bb k 1))) ∧ Below u.heap.size u w') := Lib.hid (fun u => putb_any k 1 u (by omega) (by omega))
  have w2 := Mt.u64_nat k (by omega)
  have z1 : (Mt.str (Mt.bb g 4)).size = 4 := by rw [Mt.str_size, Mt.bb_length]
  have z2 : (Mt.str (Mt.bb k 1)).size = 1 := by rw [Mt.str_size, Mt.bb_length]
  generalize Mt.str (Mt.bb g 4) = P1 at *
  generalize Mt.str (Mt.bb k 1) = P2 at *
  have z0 : (⟨#[72]⟩ : ByteArray).size = 1 := rfl
  obtain ⟨S1, e1⟩ : ∃ S, (⟨#[72]⟩ : ByteArray) ++ P1 = S := ⟨_, rfl⟩
  have e2 : S1 ++ P2 = F := by rw [HFR.out, ← e1]
  have y1 : S1.size ≤ 124 := by rw [← e1, ByteArray.size_append]; omega
  have t1 : ¬ (9223372036854775807 < 1 + P1.size) := by omega
  have t2 : ¬ (9223372036854775807 < S1.size + P2.size) := by omega
  clear z0 z1 z2 HFR y1 hg hk
  have HA := Lib.hid ((Below.refl w.heap.size w).alloc (Nat.le_refl _) (.cells #[.int .u64 (g : Int), .int .i64 (k : Int)] 102))
  have HC := Lib.hid (fun u (hu : Below (w.alloc (.cells #[.int .u64 (g : Int), .int .i64 (k : Int)] 102)).heap.size (w.alloc (.cells #[.int .u64 (g : Int), .int .i64 (k : Int)] 102)) u) => hbox_of (alloc2 w _ _ _ u hu))
  have HK := Lib.hid ((Below.refl (w.alloc (.cells #[.int .u64 (g : Int), .int .i64 (k : Int)] 102)).heap.size (w.alloc (.cells #[.int .u64 (g : Int), .int .i64 (k : Int)] 102))).drew)
  obtain ⟨c0, c1⟩ := HC.out _ (Below.refl _ _)
  unfold hdV
  simp only
  go_enter Tryz.func84, Tryz.ntmps84
  go_upto_region 1 with fail
  go_region_held3 (fun w' => w'.cell? ⟨w.heap.size, 0, none⟩ = some (.int .u64 (g : Int)) ∧ w'.cell? ⟨w.heap.size, 1, none⟩ = some (.int .i64 (k : Int)))
    (first
      | go_keep
      | exact qq)
    (first
      | (go_at_call 94; (with_reducible refine (HP1.out _).mono ?_); rintro e w2 ⟨rfl, hb⟩; have HK := Lib.hid (HK.out.trans (hb.mono HK.out.size)); have qq := HC.out _ HK.out; clear hb)
      | (go_at_call 94; (with_reducible refine (HP2.out _).mono ?_); rintro e w2 ⟨rfl, hb⟩; have HK := Lib.hid (HK.out.trans (hb.mono HK.out.size)); have qq := HC.out _ HK.out; clear hb)
      | (go_at_call 93; (with_reducible refine (HSEAL.out _).mono ?_); rintro e w2 ⟨rfl, hb⟩; have HK := Lib.hid (HK.out.trans (hb.mono HK.out.size)); have qq := HC.out _ HK.out; clear hb))
  go_wp2_with fail
  go_ret
  exact ⟨rfl, HA.out.trans (HK.out.mono HA.out.size)⟩
end Go.Proofs.YtnioagojiipjlaaGreat

/-
  What readHead comes to.
-/
namespace Go.Proofs.YtnioagojiipjlaaGreat
open Go.RowKit

theorem alloc_size (w : World) (o : Obj) : (w.alloc o).heap.size = w.heap.size + 1 := by simp
theorem hbox_below {D B : Nat} {w w1 : World} (h : Below D w w1) (hB : D ≤ B) (x y : Value) : Below D w ((w1.setCell ⟨B, 0, none⟩ x).setCell ⟨B, 1, none⟩ y) :=
  (h.setCell (p := ⟨B, 0, none⟩) hB _).setCell (p := ⟨B, 1, none⟩) hB _
set_option maxRecDepth 100000 in
theorem rhead_no (s : ByteArray) (w : World) (h : ¬ (s.size = 128 ∧ s.data.toList.getD 4 0 = 72)) : Calls Tryz.prog 63 #[.string s] w fun e w' => e = .returned (.agg #[.int .u64 0, .int .i64 0]) ∧ Below w.heap.size w w' := by
  have HM := Lib.hid (fun u => marked_no s 72 u h)
  have HB := Lib.hid (((Below.refl w.heap.size w).alloc (Nat.le_refl _) (.cells #[.int .u64 0, .int .i64 0] 102)))
  obtain ⟨c0, c1⟩ := hbox_of (heap_alloc_new w (.cells #[.int .u64 0, .int .i64 0] 102))
  clear h
  go_enter Tryz.func63, Tryz.ntmps63
  go_wp2_with fail
  refine (HM.out _).mono ?_
  rintro e w1 ⟨rfl, rfl⟩
  go_wp2_with fail
  refine bodyPost_ret (v := .agg #[.int .u64 0, .int .i64 0]) (by simp [results, Tryz.results63, go_sem]) rfl ⟨rfl, ?_⟩
  exact HB.out
/-- Which ways readHead's last test goes. -/
def HdTest (G H : Nat) (s : ByteArray) (z : Bool) : Prop :=
  (z = false ∧ G ≠ 0 ∧ H ≤ 1 ∧ (Mt.str (Mt.hdSector G H)).toList = s.toList) ∨ (z = true ∧ (G = 0 ∨ (G ≠ 0 ∧ 1 < H) ∨ (G ≠ 0 ∧ H ≤ 1 ∧ (Mt.str (Mt.hdSector G H)).toList ≠ s.toList)))

set_option maxRecDepth 100000 in
set_option maxHeartbeats 1000000 in
theorem rhead_yes (s : ByteArray) (w : World) (h : s.size = 128) (hm : s.data.toList.getD 4 0 = 72) (G H : Nat) (hG : Mt.gn s.data.toList 5 4 = G) (hH : Mt.gn s.data.toList 9 1 = H) (z : Bool) (hz : HdTest G H s z) :
    Calls Tryz.prog 63 #[.string s] w fun e w' => e = .returned (.agg (if z = true then #[.int .u64 0, .int .i64 0] else hdV (G, H))) ∧ Below w.heap.size w w' := by
  have hGl : G < 4294967296 := by rw [← hG]; have := Mt.gn_lt s.data.toList 5 4; omega
  have hHl : H < 256 := by rw [← hH]; have := Mt.gn_lt s.data.toList 9 1; omega
  have HM := Lib.hid (fun u => marked_yes s 72 u h hm)
  have HN1 : Hid (∀ u, Calls Tryz.prog 83 #[.string s, .int .i64 5, .int .i64 4] u fun e w' => e = .returned (.int .u64 (G : Int)) ∧ u = w') := Lib.hid (fun u => by have := number_any s 5 4 u (by omega) (by omega) (by omega) (by omega); rw [hG] at this; exact this)
  have HN2 : Hid (∀ u, Calls Tryz.prog 83 #[.string s, .int .i64 9, .int .i64 1] u fun e w' => e = .returned (.int .u64 (H : Int)) ∧ u = w') := Lib.hid (fun u => by have := number_any s 9 1 u (by omega) (by omega) (by omega) (by omega); rw [hH] at this; exact this)
  have HS : Hid (∀ u, Calls Tryz.prog 84 #[.agg #[.int .u64 (G : Int), .int .i64 (H : Int)]] u fun e w' => e = .returned (.string (Mt.str (Mt.hdSector G H))) ∧ Below u.heap.size u w') := Lib.hid (fun u => hsector_any G H hGl hHl u)
  have hwr : IntKind.i64.wrap (H : Int) = (H : Int) := IntWalk.i64_in _ (by omega)
  have HB := Lib.hid ((((Below.refl w.heap.size w).alloc (Nat.le_refl _) (.cells #[.int .u64 0, .int .i64 0] 102)).alloc (by simp) (.cells #[.int .u64 (G : Int), .int .i64 (H : Int)] 102)))
  have hz0 := heap_alloc_new (w.alloc (.cells #[.int .u64 0, .int .i64 0] 102)) (.cells #[.int .u64 (G : Int), .int .i64 (H : Int)] 102)
  rw [alloc_size] at hz0
  have HZ := Lib.hid hz0
  clear hz0
  have HY := Lib.hid ((((Below.refl _ (w.alloc (.cells #[.int .u64 0, .int .i64 0] 102))).alloc (Nat.le_refl _) (.cells #[.int .u64 (G : Int), .int .i64 (H : Int)] 102)).block w.heap.size (by simp)).trans (heap_alloc_new w _))
  clear hG hH h hm
  unfold HdTest at hz
  generalize Mt.str (Mt.hdSector G H) = S at *
  unfold hdV
  simp only
  rcases hz with ⟨rfl, hg, hh, hc⟩ | ⟨rfl, hg | ⟨hg, hh⟩ | ⟨hg, hh, hc⟩⟩
  · have d1 : ((G : Int) == 0) = false := by simp; omega
    have d2 : decide ((1 : Int) < (H : Int)) = false := decide_eq_false (by omega)
    have d2' : decide (1 < H) = false := decide_eq_false (by omega)
    have d3 : (S.toList == s.toList) = true := by rw [hc]; simp
    clear hc hg hh
    go_enter Tryz.func63, Tryz.ntmps63
    go_wp2_with fail
    refine (HM.out _).mono ?_
    rintro e w1 ⟨rfl, rfl⟩
    go_wp2_with fail
    refine (HN1.out _).mono ?_
    rintro e w1 ⟨rfl, rfl⟩
    go_wp2_with fail
    refine (HN2.out _).mono ?_
    rintro e w1 ⟨rfl, rfl⟩
    have hz1 := HZ.out
    have hy1 := HY.out
    obtain ⟨c0, c1⟩ := hbox_of hz1
    have HZ1 := Lib.hid hz1
    have HY1 := Lib.hid hy1
    clear hz1 hy1
    go_wp2_with fail
    refine (HS.out _).mono ?_
    rintro e w1 ⟨rfl, hb⟩
    have hz2 := (hb.block _ (lt_of_block HZ1.out)).trans HZ1.out
    have hy2 := (hb.block _ (lt_of_block HY1.out)).trans HY1.out
    have HB2 := Lib.hid (HB.out.trans (hb.mono HB.out.size))
    obtain ⟨k0, k1⟩ := hbox_of hz2
    obtain ⟨l0, l1⟩ := hbox_of hy2
    obtain ⟨f0, f1⟩ : w1.frozen? ⟨w.heap.size, 0, none⟩ = false ∧ w1.frozen? ⟨w.heap.size, 1, none⟩ = false := ⟨frozen_of_row _ _ _ _ _ hy2, frozen_of_row _ _ _ _ _ hy2⟩
    clear hz2 hy2 hb
    go_wp2_with fail
    refine bodyPost_ret (v := .agg #[.int .u64 (G : Int), .int .i64 (H : Int)]) (by simp [results, Tryz.results63, go_sem, l0, l1]) rfl ⟨rfl, ?_⟩
    exact hbox_below HB2.out (Nat.le_refl _) _ _
  · have d1 : ((G : Int) == 0) = true := by simp [hg]
    clear hg
    rw [if_pos rfl]
    go_enter Tryz.func63, Tryz.ntmps63
    go_wp2_with fail
    refine (HM.out _).mono ?_
    rintro e w1 ⟨rfl, rfl⟩
    go_wp2_with fail
    refine (HN1.out _).mono ?_
    rintro e w1 ⟨rfl, rfl⟩
    go_wp2_with fail
    refine (HN2.out _).mono ?_
    rintro e w1 ⟨rfl, rfl⟩
    have hz1 := HZ.out
    have hy1 := HY.out
    obtain ⟨c0, c1⟩ := hbox_of hz1
    obtain ⟨l0, l1⟩ := hbox_of hy1
    have HZ1 := Lib.hid hz1
    have HY1 := Lib.hid hy1
    clear hz1 hy1
    go_wp2_with fail
    refine bodyPost_ret (v := .agg #[.int .u64 0, .int .i64 0]) (by simp [results, Tryz.results63, go_sem, l0, l1]) rfl ⟨rfl, ?_⟩
    exact HB.out
  · have d1 : ((G : Int) == 0) = false := by simp; omega
    have d2 : decide ((1 : Int) < (H : Int)) = true := decide_eq_true (by omega)
    have d2' : decide (1 < H) = true := decide_eq_true (by omega)
    clear hg hh
    rw [if_pos rfl]
    go_enter Tryz.func63, Tryz.ntmps63
    go_wp2_with fail
    refine (HM.out _).mono ?_
    rintro e w1 ⟨rfl, rfl⟩
    go_wp2_with fail
    refine (HN1.out _).mono ?_
    rintro e w1 ⟨rfl, rfl⟩
    go_wp2_with fail
    refine (HN2.out _).mono ?_
    rintro e w1 ⟨rfl, rfl⟩
    have hz1 := HZ.out
    have hy1 := HY.out
    obtain ⟨c0, c1⟩ := hbox_of hz1
    obtain ⟨l0, l1⟩ := hbox_of hy1
    have HZ1 := Lib.hid hz1
    have HY1 := Lib.hid hy1
    clear hz1 hy1
    go_wp2_with fail
    refine bodyPost_ret (v := .agg #[.int .u64 0, .int .i64 0]) (by simp [results, Tryz.results63, go_sem, l0, l1]) rfl ⟨rfl, ?_⟩
    exact HB.out
  · have d1 : ((G : Int) == 0) = false := by simp; omega
    have d2 : decide ((1 : Int) < (H : Int)) = false := decide_eq_false (by omega)
    have d2' : decide (1 < H) = false := decide_eq_false (by omega)
    have d3 : (S.toList == s.toList) = false := by simpa using hc
    clear hc hg hh
    rw [if_pos rfl]
    go_enter Tryz.func63, Tryz.ntmps63
    go_wp2_with fail
    refine (HM.out _).mono ?_
    rintro e w1 ⟨rfl, rfl⟩
    go_wp2_with fail
    refine (HN1.out _).mono ?_
    rintro e w1 ⟨rfl, rfl⟩
    go_wp2_with fail
    refine (HN2.out _).mono ?_
    rintro e w1 ⟨rfl, rfl⟩
    have hz1 := HZ.out
    have hy1 := HY.out
    obtain ⟨c0, c1⟩ := hbox_of hz1
    have HZ1 := Lib.hid hz1
    have HY1 := Lib.hid hy1
    clear hz1 hy1
    go_wp2_with fail
    refine (HS.out _).mono ?_
    rintro e w1 ⟨rfl, hb⟩
    have hz2 := (hb.block _ (lt_of_block HZ1.out)).trans HZ1.out
    have hy2 := (hb.block _ (lt_of_block HY1.out)).trans HY1.out
    have HB2 := Lib.hid (HB.out.trans (hb.mono HB.out.size))
    obtain ⟨k0, k1⟩ := hbox_of hz2
    obtain ⟨l0, l1⟩ := hbox_of hy2
    obtain ⟨f0, f1⟩ : w1.frozen? ⟨w.heap.size, 0, none⟩ = false ∧ w1.frozen? ⟨w.heap.size, 1, none⟩ = false := ⟨frozen_of_row _ _ _ _ _ hy2, frozen_of_row _ _ _ _ _ hy2⟩
    clear hz2 hy2 hb
    go_wp2_with fail
    refine bodyPost_ret (v := .agg #[.int .u64 0, .int .i64 0]) (by simp [results, Tryz.results63, go_sem, l0, l1]) rfl ⟨rfl, ?_⟩
    exact hbox_below HB2.out (Nat.le_refl _) _ _
/-- A sector read as a head. -/
theorem readHead_any (s : ByteArray) (w : World) : Calls Tryz.prog 63 #[.string s] w fun e w' => e = .returned (.agg (hdV (Mt.rdHead s.data.toList))) ∧ Below w.heap.size w w' := by
  by_cases h : s.size = 128 ∧ s.data.toList.getD 4 0 = 72
  · obtain ⟨h1, h2⟩ := h
    have hl : s.data.toList.length = 128 := h1
    have hcmp : ∀ G H : Nat, (Mt.str (Mt.hdSector G H)).toList = s.toList ↔ Mt.hdSector G H = s.data.toList := fun G H => by rw [ByteArray.toList_eq, ByteArray.toList_eq]; rfl
    obtain ⟨G, hG⟩ : ∃ G, Mt.gn s.data.toList 5 4 = G := ⟨_, rfl⟩
    obtain ⟨H, hH⟩ : ∃ H, Mt.gn s.data.toList 9 1 = H := ⟨_, rfl⟩
    by_cases hc : G ≠ 0 ∧ H ≤ 1 ∧ Mt.hdSector G H = s.data.toList
    · have := rhead_yes s w h1 h2 G H hG hH false (.inl ⟨rfl, hc.1, hc.2.1, (hcmp _ _).2 hc.2.2⟩)
      have e : Mt.rdHead s.data.toList = (G, H) := by unfold Mt.rdHead; rw [if_pos ⟨hl, h2, by rw [hG]; exact hc.1, by rw [hH]; exact hc.2.1, by rw [hG, hH]; exact hc.2.2⟩, hG, hH]
      rw [e]
      exact this
    · have := rhead_yes s w h1 h2 G H hG hH true (.inr ⟨rfl, by
        by_cases a : G = 0
        · exact .inl a
        · by_cases b : 1 < H
          · exact .inr (.inl ⟨a, b⟩)
          · exact .inr (.inr ⟨a, by omega, fun e => hc ⟨a, by omega, (hcmp _ _).1 e⟩⟩)⟩)
      have e : Mt.rdHead s.data.toList = (0, 0) := by
        unfold Mt.rdHead
        rw [if_neg]
        rintro ⟨_, _, a, b, c⟩
        rw [hG] at a; rw [hH] at b; rw [hG, hH] at c
        exact hc ⟨a, b, c⟩
      rw [e]
      exact this
  · have := rhead_no s w h
    have e : Mt.rdHead s.data.toList = (0, 0) := by
      unfold Mt.rdHead
      rw [if_neg]
      rintro ⟨a, b, _⟩
      exact h ⟨a, b⟩
    rw [e]
    exact this
end Go.Proofs.YtnioagojiipjlaaGreat
