/-
  Some texts of one proof, one behind the other.
-/
import Derived.Test.YtnioagojiipjlaaGreatPk8
set_option linter.unusedVariables false
set_option linter.unusedSimpArgs false

/-
  What readCell comes to.
-/
namespace Go.Proofs.YtnioagojiipjlaaGreat
open Go.RowKit

theorem cbox_below {D B : Nat} {w w1 : World} (h : Below D w w1) (hB : D ≤ B) (x y z u v : Value) : Below D w (((((w1.setCell ⟨B, 0, none⟩ x).setCell ⟨B, 1, none⟩ y).setCell ⟨B, 2, none⟩ z).setCell ⟨B, 3, none⟩ u).setCell ⟨B, 4, none⟩ v) :=
  ((((h.setCell (p := ⟨B, 0, none⟩) hB _).setCell (p := ⟨B, 1, none⟩) hB _).setCell (p := ⟨B, 2, none⟩) hB _).setCell (p := ⟨B, 3, none⟩) hB _).setCell (p := ⟨B, 4, none⟩) hB _
/-- The zero cell as a value. -/
abbrev zcV : Array Value := #[.int .u64 0, .int .u64 0, .int .i64 0, .int .i64 0, .string ⟨#[]⟩]
set_option maxRecDepth 100000 in
theorem rcell_no (s : ByteArray) (w : World) (h : ¬ (s.size = 128 ∧ s.data.toList.getD 4 0 = 67)) : Calls Tryz.prog 64 #[.string s] w fun e w' => e = .returned (.agg zcV) ∧ Below w.heap.size w w' := by
  have HM := Lib.hid (fun u => marked_no s 67 u h)
  have HB := Lib.hid (((Below.refl w.heap.size w).alloc (Nat.le_refl _) (.cells zcV 106)))
  obtain ⟨c0, c1, c2, c3, c4⟩ := box5_of (heap_alloc_new w (.cells zcV 106))
  clear h
  go_enter Tryz.func64, Tryz.ntmps64
  go_wp2_with fail
  refine (HM.out _).mono ?_
  rintro e w1 ⟨rfl, rfl⟩
  go_wp2_with fail
  refine bodyPost_ret (v := .agg zcV) (by simp [results, Tryz.results64, go_sem]) rfl ⟨rfl, ?_⟩
  exact HB.out
set_option maxRecDepth 100000 in
theorem rcell_long (s : ByteArray) (w : World) (h : s.size = 128) (hm : s.data.toList.getD 4 0 = 67) (n : Nat) (hn : Mt.gn s.data.toList 17 1 = n) (h110 : 110 < n) : Calls Tryz.prog 64 #[.string s] w fun e w' => e = .returned (.agg zcV) ∧ Below w.heap.size w w' := by
  have HM := Lib.hid (fun u => marked_yes s 67 u h hm)
  have HN : Hid (∀ u, Calls Tryz.prog 83 #[.string s, .int .i64 17, .int .i64 1] u fun e w' => e = .returned (.int .u64 (n : Int)) ∧ u = w') := Lib.hid (fun u => by have := number_any s 17 1 u (by omega) (by omega) (by omega) (by omega); rw [hn] at this; exact this)
  have HB := Lib.hid (((Below.refl w.heap.size w).alloc (Nat.le_refl _) (.cells zcV 106)))
  obtain ⟨c0, c1, c2, c3, c4⟩ := box5_of (heap_alloc_new w (.cells zcV 106))
  have hd : decide ((110 : Int) < (n : Int)) = true := decide_eq_true (by omega)
  have hd2 : decide (110 < n) = true := decide_eq_true (by omega)
  clear h hm hn h110
  go_enter Tryz.func64, Tryz.ntmps64
  go_wp2_with fail
  refine (HM.out _).mono ?_
  rintro e w1 ⟨rfl, rfl⟩
  go_wp2_with fail
  refine (HN.out _).mono ?_
  rintro e w1 ⟨rfl, rfl⟩
  go_wp2_with fail
  refine bodyPost_ret (v := .agg zcV) (by simp [results, Tryz.results64, go_sem]) rfl ⟨rfl, ?_⟩
  exact HB.out
theorem Mt.ext_list (s : ByteArray) (a n : Nat) : s.extract a (a + n) = Mt.str ((s.data.toList.drop a).take n) := by
  apply ByteArray.ext
  apply Array.ext'
  rw [ByteArray.data_extract, Array.toList_extract]
  simp [Mt.str, List.extract]

set_option maxRecDepth 100000 in
set_option maxHeartbeats 1000000 in
theorem rcell_yes (s : ByteArray) (w : World) (h : s.size = 128) (hm : s.data.toList.getD 4 0 = 67) (G N P Q n : Nat) (B : List UInt8) (hn : Mt.gn s.data.toList 17 1 = n) (hG : Mt.gn s.data.toList 5 4 = G) (hN : Mt.gn s.data.toList 9 4 = N) (hP : Mt.gn s.data.toList 13 2 = P) (hQ : Mt.gn s.data.toList 15 2 = Q) (hB : (s.data.toList.drop 18).take n = B) (h110 : n ≤ 110)
    (z : Bool) (hz : (z = false ∧ (Mt.Cl.mk G N P Q B).sound = true ∧ (Mt.str (Mt.Cl.mk G N P Q B).sector).toList = s.toList) ∨ (z = true ∧ ((Mt.Cl.mk G N P Q B).sound = false ∨ ((Mt.Cl.mk G N P Q B).sound = true ∧ (Mt.str (Mt.Cl.mk G N P Q B).sector).toList ≠ s.toList)))) :
    Calls Tryz.prog 64 #[.string s] w fun e w' => e = .returned (.agg (if z = true then zcV else clV (Mt.Cl.mk G N P Q B))) ∧ Below w.heap.size w w' := by
  have hGl : G < 4294967296 := by rw [← hG]; have := Mt.gn_lt s.data.toList 5 4; omega
  have hNl : N < 4294967296 := by rw [← hN]; have := Mt.gn_lt s.data.toList 9 4; omega
  have hPl : P < 65536 := by rw [← hP]; have := Mt.gn_lt s.data.toList 13 2; omega
  have hQl : Q < 65536 := by rw [← hQ]; have := Mt.gn_lt s.data.toList 15 2; omega
  have hBl : B.length ≤ 110 := by rw [← hB, List.length_take]; omega
  have hfit : (Mt.Cl.mk G N P Q B).Fits := ⟨hGl, hNl, hPl, hQl, hBl⟩
  have HM := Lib.hid (fun u => marked_yes s 67 u h hm)
  have HN0 : Hid (∀ u, Calls Tryz.prog 83 #[.string s, .int .i64 17, .int .i64 1] u fun e w' => e = .returned (.int .u64 (n : Int)) ∧ u = w') := Lib.hid (fun u => by have := number_any s 17 1 u (by omega) (by omega) (by omega) (by omega); rw [hn] at this; exact this)
  have HN1 : Hid (∀ u, Calls Tryz.prog 83 #[.string s, .int .i64 5, .int .i64 4] u fun e w' => e = .returned (.int .u64 (G : Int)) ∧ u = w') := Lib.hid (fun u => by have := number_any s 5 4 u (by omega) (by omega) (by omega) (by omega); rw [hG] at this; exact this)
  have HN2 : Hid (∀ u, Calls Tryz.prog 83 #[.string s, .int .i64 9, .int .i64 4] u fun e w' => e = .returned (.int .u64 (N : Int)) ∧ u = w') := Lib.hid (fun u => by have := number_any s 9 4 u (by omega) (by omega) (by omega) (by omega); rw [hN] at this; exact this)
  have HN3 : Hid (∀ u, Calls Tryz.prog 83 #[.string s, .int .i64 13, .int .i64 2] u fun e w' => e = .returned (.int .u64 (P : Int)) ∧ u = w') := Lib.hid (fun u => by have := number_any s 13 2 u (by omega) (by omega) (by omega) (by omega); rw [hP] at this; exact this)
  have HN4 : Hid (∀ u, Calls Tryz.prog 83 #[.string s, .int .i64 15, .int .i64 2] u fun e w' => e = .returned (.int .u64 (Q : Int)) ∧ u = w') := Lib.hid (fun u => by have := number_any s 15 2 u (by omega) (by omega) (by omega) (by omega); rw [hQ] at this; exact this)
  have HSO : Hid (∀ u, Calls Tryz.prog 85 #[.agg #[.int .u64 (G : Int), .int .u64 (N : Int), .int .i64 (P : Int), .int .i64 (Q : Int), .string (Mt.str B)]] u fun e w' => e = .returned (.bool (Mt.Cl.mk G N P Q B).sound) ∧ Below u.heap.size u w') := Lib.hid (fun u => sound_any (Mt.Cl.mk G N P Q B) hfit u)
  have HSE : Hid (∀ u, Calls Tryz.prog 79 #[.agg #[.int .u64 (G : Int), .int .u64 (N : Int), .int .i64 (P : Int), .int .i64 (Q : Int), .string (Mt.str B)]] u fun e w' => e = .returned (.string (Mt.str (Mt.Cl.mk G N P Q B).sector)) ∧ Below u.heap.size u w') := Lib.hid (fun u => csector_any (Mt.Cl.mk G N P Q B) hfit u)
  have v1 : IntKind.i64.wrap (P : Int) = (P : Int) := IntWalk.i64_in _ (by omega)
  have v2 : IntKind.i64.wrap (Q : Int) = (Q : Int) := IntWalk.i64_in _ (by omega)
  have v3 : IntKind.i64.wrap (n : Int) = (n : Int) := IntWalk.i64_in _ (by omega)
  have v4 : IntKind.i64.wrap (18 + (n : Int)) = 18 + (n : Int) := IntWalk.i64_in _ (by omega)
  have v5 : (18 : Int) ≤ 18 + (n : Int) := by omega
  have v6 : 18 + (n : Int) ≤ (s.size : Int) := by omega
  have v7 : (18 + (n : Int)).toNat = 18 + n := by omega
  have v8 : s.extract 18 (18 + n) = Mt.str B := by rw [Mt.ext_list, hB]
  have hd : decide ((110 : Int) < (n : Int)) = false := decide_eq_false (by omega)
  have hd2 : decide (110 < n) = false := decide_eq_false (by omega)
  have v0 : (0 : Int) ≤ 18 + (n : Int) := by omega
  have HA := Lib.hid ((Below.refl w.heap.size w).alloc (Nat.le_refl _) (.cells zcV 106))
  have HY := Lib.hid (heap_alloc_new w (.cells zcV 106))
  obtain ⟨c0, c1, c2, c3, c4⟩ := box5_of (heap_alloc_new w (.cells zcV 106))
  have hz0 := heap_alloc_new (w.alloc (.cells zcV 106)) (.cells #[.int .u64 (G : Int), .int .u64 (N : Int), .int .i64 (P : Int), .int .i64 (Q : Int), .string (Mt.str B)] 106)
  rw [alloc_size] at hz0
  have HZ : Hid ((((w.alloc (.cells zcV 106)).alloc (.cells #[.int .u64 (G : Int), .int .u64 (N : Int), .int .i64 (P : Int), .int .i64 (Q : Int), .string (Mt.str B)] 106)).drew).heap[w.heap.size + 1]? = some (.cells #[.int .u64 (G : Int), .int .u64 (N : Int), .int .i64 (P : Int), .int .i64 (Q : Int), .string (Mt.str B)] 106 (0, 0))) := Lib.hid hz0
  have HB1 := Lib.hid ((HA.out.alloc (by simp) (.cells #[.int .u64 (G : Int), .int .u64 (N : Int), .int .i64 (P : Int), .int .i64 (Q : Int), .string (Mt.str B)] 106)).drew)
  have HY1 : Hid ((((w.alloc (.cells zcV 106)).alloc (.cells #[.int .u64 (G : Int), .int .u64 (N : Int), .int .i64 (P : Int), .int .i64 (Q : Int), .string (Mt.str B)] 106)).drew).heap[w.heap.size]? = some (.cells zcV 106 (0, 0))) := Lib.hid ((((Below.refl _ (w.alloc (.cells zcV 106))).alloc (Nat.le_refl _) _).block w.heap.size (by simp)).trans HY.out)
  clear hz0
  unfold clV
  simp only
  generalize (Mt.Cl.mk G N P Q B).sound = so at *
  generalize Mt.str (Mt.Cl.mk G N P Q B).sector = S at *
  generalize Mt.str B = BS at *
  clear hG hN hP hQ hB hn h hm h110 hGl hNl hPl hQl hBl hfit
  go_enter Tryz.func64, Tryz.ntmps64
  go_wp2_with fail
  refine (HM.out _).mono ?_
  rintro e w1 ⟨rfl, rfl⟩
  go_wp2_with fail
  refine (HN0.out _).mono ?_
  rintro e w1 ⟨rfl, rfl⟩
  go_upto_region 6 with fail
  go_region_held3 (fun w' => w'.cell? ⟨w.heap.size, 0, none⟩ = some (.int .u64 0))
    (first
      | go_keep
      | exact qq)
    (first
      | (go_at_call 83; (with_reducible refine (HN1.out _).mono ?_); rintro e w2 ⟨rfl, rfl⟩)
      | (go_at_call 83; (with_reducible refine (HN2.out _).mono ?_); rintro e w2 ⟨rfl, rfl⟩)
      | (go_at_call 83; (with_reducible refine (HN3.out _).mono ?_); rintro e w2 ⟨rfl, rfl⟩)
      | (go_at_call 83; (with_reducible refine (HN4.out _).mono ?_); rintro e w2 ⟨rfl, rfl⟩))
  all_goals
    have hz1 := HZ.out
    have hy1 := HY1.out
    obtain ⟨k0, k1, k2, k3, k4⟩ := box5_of hz1
    clear hz1 hy1
    go_wp2_with fail
    refine (HSO.out _).mono ?_
    rintro e w1 ⟨rfl, hb⟩
    have hz2 := (hb.block _ (lt_of_block HZ.out)).trans HZ.out
    have hy2 := (hb.block _ (lt_of_block HY1.out)).trans HY1.out
    have HB2 := Lib.hid (HB1.out.trans (hb.mono HB1.out.size))
    obtain ⟨k0, k1, k2, k3, k4⟩ := box5_of hz2
    obtain ⟨l0, l1, l2, l3, l4⟩ := box5_of hy2
    have f0 : w1.frozen? ⟨w.heap.size, 0, none⟩ = false := frozen_of_row _ _ _ _ _ hy2
    have f1 : w1.frozen? ⟨w.heap.size, 1, none⟩ = false := frozen_of_row _ _ _ _ _ hy2
    have f2 : w1.frozen? ⟨w.heap.size, 2, none⟩ = false := frozen_of_row _ _ _ _ _ hy2
    have f3 : w1.frozen? ⟨w.heap.size, 3, none⟩ = false := frozen_of_row _ _ _ _ _ hy2
    have f4 : w1.frozen? ⟨w.heap.size, 4, none⟩ = false := frozen_of_row _ _ _ _ _ hy2
    have HZ2 := Lib.hid hz2
    have HY2 := Lib.hid hy2
    clear hz2 hy2 hb
    rcases hz with ⟨rfl, rfl, hc⟩ | ⟨rfl, rfl | ⟨rfl, hc⟩⟩
    · have d3 : (S.toList == s.toList) = true := by rw [hc]; simp
      clear hc
      go_wp2_with fail
      refine (HSE.out _).mono ?_
      rintro e w3 ⟨rfl, hb⟩
      have hz3 := (hb.block _ (lt_of_block HZ2.out)).trans HZ2.out
      have hy3 := (hb.block _ (lt_of_block HY2.out)).trans HY2.out
      have HB3 := Lib.hid (HB2.out.trans (hb.mono HB2.out.size))
      obtain ⟨k0, k1, k2, k3, k4⟩ := box5_of hz3
      obtain ⟨l0, l1, l2, l3, l4⟩ := box5_of hy3
      have f0 : w3.frozen? ⟨w.heap.size, 0, none⟩ = false := frozen_of_row _ _ _ _ _ hy3
      have f1 : w3.frozen? ⟨w.heap.size, 1, none⟩ = false := frozen_of_row _ _ _ _ _ hy3
      have f2 : w3.frozen? ⟨w.heap.size, 2, none⟩ = false := frozen_of_row _ _ _ _ _ hy3
      have f3 : w3.frozen? ⟨w.heap.size, 3, none⟩ = false := frozen_of_row _ _ _ _ _ hy3
      have f4 : w3.frozen? ⟨w.heap.size, 4, none⟩ = false := frozen_of_row _ _ _ _ _ hy3
      clear hz3 hy3 hb
      go_wp2_with fail
      refine bodyPost_ret (v := .agg #[.int .u64 (G : Int), .int .u64 (N : Int), .int .i64 (P : Int), .int .i64 (Q : Int), .string BS]) (by simp [results, Tryz.results64, go_sem, l0, l1, l2, l3, l4]) rfl ⟨rfl, ?_⟩
      exact cbox_below HB3.out (Nat.le_refl _) _ _ _ _ _
    · skip
      go_wp2_with fail
      refine bodyPost_ret (v := .agg zcV) (by simp [results, Tryz.results64, go_sem, l0, l1, l2, l3, l4]) rfl ⟨rfl, ?_⟩
      exact cbox_below HB2.out (Nat.le_refl _) _ _ _ _ _
    · have d3 : (S.toList == s.toList) = false := by simpa using hc
      clear hc
      go_wp2_with fail
      refine (HSE.out _).mono ?_
      rintro e w3 ⟨rfl, hb⟩
      have hy3 := (hb.block _ (lt_of_block HY2.out)).trans HY2.out
      have HB3 := Lib.hid (HB2.out.trans (hb.mono HB2.out.size))
      obtain ⟨l0, l1, l2, l3, l4⟩ := box5_of hy3
      have f0 : w3.frozen? ⟨w.heap.size, 0, none⟩ = false := frozen_of_row _ _ _ _ _ hy3
      have f1 : w3.frozen? ⟨w.heap.size, 1, none⟩ = false := frozen_of_row _ _ _ _ _ hy3
      have f2 : w3.frozen? ⟨w.heap.size, 2, none⟩ = false := frozen_of_row _ _ _ _ _ hy3
      have f3 : w3.frozen? ⟨w.heap.size, 3, none⟩ = false := frozen_of_row _ _ _ _ _ hy3
      have f4 : w3.frozen? ⟨w.heap.size, 4, none⟩ = false := frozen_of_row _ _ _ _ _ hy3
      clear hy3 hb
      go_wp2_with fail
      refine bodyPost_ret (v := .agg zcV) (by simp [results, Tryz.results64, go_sem, l0, l1, l2, l3, l4]) rfl ⟨rfl, ?_⟩
      exact cbox_below HB3.out (Nat.le_refl _) _ _ _ _ _
end Go.Proofs.YtnioagojiipjlaaGreat
