/-
  Some texts of one proof, one behind the other.
-/
import Derived.Test.YtnioagojiipjlaaGreatPk0
import Derived.Test.YtnioagojiipjlaaGreatPk8
import Derived.Test.YtnioagojiipjlaaGreatPk12

/-
  What readCell comes to.
-/
namespace Go.Proofs.YtnioagojiipjlaaGreat
open Go.RowKit

theorem cbox_below {D B : Nat} {w w1 : World} (h : Below D w w1) (hB : D ≤ B) (x y z u v : Value) : Below D w (((((w1.setCell ⟨B, 0, none⟩ x).setCell ⟨B, 1, none⟩ y).setCell ⟨B, 2, none⟩ z).setCell ⟨B, 3, none⟩ u).setCell ⟨B, 4, none⟩ v) :=
  ((((h.setCell (p := ⟨B, 0, none⟩) hB _).setCell (p := ⟨B, 1, none⟩) hB _).setCell (p := ⟨B, 2, none⟩) hB _).setCell (p := ⟨B, 3, none⟩) hB _).setCell (p := ⟨B, 4, none⟩) hB _
/-- The zero cell as a value. -/
abbrev zcV : Array Value := #[.int .u64 0, .int .u64 0, .int .i64 0, .int .i64 0, .string ⟨#[]⟩]
set_option maxRecDepth 100000 in
theorem rcell_no (s : ByteArray) (w : World) (h : ¬ (s.size = 128 ∧ s.data.toList.getD 4 0 = 67)) : Calls Tryz.prog 64 #[.string s] w fun e w' => e = .returned (.agg zcV) ∧ Below w.heap.size w w' := by
  have HM := Lib.hid (fun u => marked_no s 67 u h)
  have HB := Lib.hid (((Below.refl w.heap.size w).alloc (Nat.le_refl _) (.cells zcV 106)))
  obtain ⟨c0, c1, c2, c3, c4⟩ := box5_of (heap_alloc_new w (.cells zcV 106))
  clear h
  go_enter Tryz.func64, Tryz.ntmps64
  go_wp2_with fail
  refine (HM.out _).mono ?_
  rintro e w1 ⟨rfl, rfl⟩
  go_wp2_with fail
  refine bodyPost_ret (v := .agg zcV) (by simp [results, Tryz.results64, go_sem]) rfl ⟨rfl, ?_⟩
  exact HB.out
set_option maxRecDepth 100000 in
theorem rcell_long (s : ByteArray) (w : World) (h : s.size = 128) (hm : s.data.toList.getD 4 0 = 67) (n : Nat) (hn : Mt.gn s.data.toList 17 1 = n) (h110 : 110 < n) : Calls Tryz.prog 64 #[.string s] w fun e w' => e = .returned (.agg zcV) ∧ Below w.heap.size w w' := by
  have HM := Lib.hid (fun u => marked_yes s 67 u h hm)
  have HN : Hid (∀ u, Calls Tryz.prog 83 #[.string s, .int .i64 17, .int .i64 1] u fun e w' => e = .returned (.int .u64 (n : Int)) ∧ u = w') := Lib.hid (fun u => by have := number_any s 17 1 u (by omega) (by omega) (by omega) (by omega); rw [hn] at this; exact this)
  have HB := Lib.hid (((Below.refl w.heap.size w).alloc (Nat.le_refl _) (.cells zcV 106)))
  obtain ⟨c0, c1, c2, c3, c4⟩ := box5_of (heap_alloc_new w (.cells zcV 106))
  have hd : decide ((110 : Int) < (n : Int)) = true := decide_eq_true (by omega)
  have hd2 : decide (110 < n) = true := decide_eq_true (by omega)
  clear h hm hn h110
  go_enter Tryz.func64, Tryz.ntmps64
  go_wp2_with fail
  refine (HM.out _).mono ?_
  rintro e w1 ⟨rfl, rfl⟩
  go_wp2_with fail
  refine (HN.out _).mono ?_
  rintro e w1 ⟨rfl, rfl⟩
  go_wp2_with fail
  refine bodyPost_ret (v := .agg zcV) (by simp [results, Tryz.results64, go_sem]) rfl ⟨rfl, ?_⟩
  exact HB.out
theorem Mt.ext_list (s : ByteArray) (a n : Nat) : s.extract a (a + n) = Mt.str ((s.data.toList.drop a).take n) := by
  apply ByteArray.ext
  apply Array.ext'
  rw [ByteArray.data_extract, Array.toList_extract]
  simp [Mt.str, List.extract]

set_option maxRecDepth 100000 in
set_option maxHeartbeats 1000000 in
theorem rcell_yes (s : ByteArray) (w : World) (h : s.size = 128) (hm : s.data.toList.getD 4 0 = 67) (G N P Q n : Nat) (B : List UInt8) (hn : Mt.gn s.data.toList 17 1 = n) (hG : Mt.gn s.data.toList 5 4 = G) (hN : Mt.gn s.data.toList 9 4 = N) (hP : Mt.gn s.data.toList 13 2 = P) (hQ : Mt.gn s.data.toList 15 2 = Q) (hB : (s.data.toList.drop 18).take n = B) (h110 : n ≤ 110)
    (z : Bool) (hz : (z = false ∧ (Mt.Cl.mk G N P Q B).sound = true ∧ (Mt.str (Mt.Cl.mk G N P Q B).sector).toList = s.toList) ∨ (z = true ∧ ((Mt.Cl.mk G N P Q B).sound = false ∨ ((Mt.Cl.mk G N P Q B).sound = true ∧ (Mt.str (Mt.Cl.mk G N P Q B).sector).toList ≠ s.toList)))) :
    Calls Tryz.prog 64 #[.string s] w fun e w' => e = .returned (.agg (if z = true then zcV else clV (Mt.Cl.mk G N P Q B))) ∧ Below w.heap.size w w' := by
  have hGl : G < 4294967296 := by rw [← hG]; have := Mt.gn_lt s.data.toList 5 4; omega
  have hNl : N < 4294967296 := by rw [← hN]; have := Mt.gn_lt s.data.toList 9 4; omega
  have hPl : P < 65536 := by rw [← hP]; have := Mt.gn_lt s.data.toList 13 2; omega
  have hQl : Q < 65536 := by rw [← hQ]; have := Mt.gn_lt s.data.toList 15 2; omega
  have hBl : B.length ≤ 110 := by rw [← hB, List.length_take]; omega
  have hfit : (Mt.Cl.mk G N P Q B).Fits := ⟨hGl, hNl, hPl, hQl, hBl⟩
  have HM := Lib.hid (fun u => marked_yes s 67 u h hm)
  have HN0 : Hid (∀ u, Calls Tryz.prog 83 #[.string s, .int .i64 17, .int .i64 1] u fun e w' => e = .returned (.int .u64 (n : Int)) ∧ u = w') := Lib.hid (fun u => by have := number_any s 17 1 u (by omega) (by omega) (by omega) (by omega); rw [hn] at this; exact this)
  have HN1 : Hid (∀ u, Calls Tryz.prog 83 #[.string s, .int .i64 5, .int .i64 4] u fun e w' => e = .returned (.int .u64 (G : Int)) ∧ u = w') := Lib.hid (fun u => by have := number_any s 5 4 u (by omega) (by omega) (by omega) (by omega); rw [hG] at this; exact this)
  have HN2 : Hid (∀ u, Calls Tryz.prog 83 #[.string s, .int .i64 9, .int .i64 4] u fun e w' => e = .returned (.int .u64 (N : Int)) ∧ u = w') := Lib.hid (fun u => by have := number_any s 9 4 u (by omega) (by omega) (by omega) (by omega); rw [hN] at this; exact this)
  have HN3 : Hid (∀ u, Calls Tryz.prog 83 #[.string s, .int .i64 13, .int .i64 2] u fun e w' => e = .returned (.int .u64 (P : Int)) ∧ u = w') := Lib.hid (fun u => by have := number_any s 13 2 u (by omega) (by omega) (by omega) (by omega); rw [hP] at this; exact this)
  have HN4 : Hid (∀ u, Calls Tryz.prog 83 #[.string s, .int .i64 15, .int .i64 2] u fun e w' => e = .returned (.int .u64 (Q : Int)) ∧ u = w') := Lib.hid (fun u => by have := number_any s 15 2 u (by omega) (by omega) (by omega) (by omega); rw [hQ] at this; exact this)
  have HSO : Hid (∀ u, Calls Tryz.prog 85 #[.agg #[.int .u64 (G : Int), .int .u64 (N : Int), .int .i64 (P : Int), .int .i64 (Q : Int), .string (Mt.str B)]] u fun e w' => e = .returned (.bool (Mt.Cl.mk G N P Q B).sound) ∧ Below u.heap.size u w') := Lib.hid (fun u => sound_any (Mt.Cl.mk G N P Q B) hfit u)
  have HSE : Hid (∀ u, Calls Tryz.prog 79 #[.agg #[.int .u64 (G : Int), .int .u64 (N : Int), .int .i64 (P : Int), .int .i64 (Q : Int), .string (Mt.str B)]] u fun e w' => e = .returned (.string (Mt.str (Mt.Cl.mk G N P Q B).sector)) ∧ Below u.heap.size u w') := Lib.hid (fun u => csector_any (Mt.Cl.mk G N P Q B) hfit u)
  have v1 : IntKind.i64.wrap (P : Int) = (P : Int) := IntWalk.i64_in _ (by omega)
  have v2 : IntKind.i64.wrap (Q : Int) = (Q : Int) := IntWalk.i64_in _ (by omega)
  have v3 : IntKind.i64.wrap (n : Int) = (n : Int) := IntWalk.i64_in _ (by omega)
  have v4 : IntKind.i64.wrap (18 + (n : Int)) = 18 + (n : Int) := IntWalk.i64_in _ (by omega)
  have v5 : (18 : Int) ≤ 18 + (n : Int) := by omega
  have v6 : 18 + (n : Int) ≤ (s.size : Int) := by omega
  have v7 : (18 + (n : Int)).toNat = 18 + n := by omega
  have v8 : s.extract 18 (18 + n) = Mt.str B := by rw [Mt.ext_list, hB]
  have hd : decide ((110 : Int) < (n : Int)) = false := decide_eq_false (by omega)
  have hd2 : decide (110 < n) = false := decide_eq_false (by omega)
  have v0 : (0 : Int) ≤ 18 + (n : Int) := by omega
  have HA := Lib.hid ((Below.refl w.heap.size w).alloc (Nat.le_refl _) (.cells zcV 106))
  have HY := Lib.hid (heap_alloc_new w (.cells zcV 106))
  obtain ⟨c0, c1, c2, c3, c4⟩ := box5_of (heap_alloc_new w (.cells zcV 106))
  have hz0 := heap_alloc_new (w.alloc (.cells zcV 106)) (.cells #[.int .u64 (G : Int), .int .u64 (N : Int), .int .i64 (P : Int), .int .i64 (Q : Int), .string (Mt.str B)] 106)
  rw [alloc_size] at hz0
  have HZ : Hid ((((w.alloc (.cells zcV 106)).alloc (.cells #[.int .u64 (G : Int), .int .u64 (N : Int), .int .i64 (P : Int), .int .i64 (Q : Int), .string (Mt.str B)] 106)).drew).heap[w.heap.size + 1]? = some (.cells #[.int .u64 (G : Int), .int .u64 (N : Int), .int .i64 (P : Int), .int .i64 (Q : Int), .string (Mt.str B)] 106 (0, 0))) := Lib.hid hz0
  have HB1 := Lib.hid ((HA.out.alloc (by simp) (.cells #[.int .u64 (G : Int), .int .u64 (N : Int), .int .i64 (P : Int), .int .i64 (Q : Int), .string (Mt.str B)] 106)).drew)
  have HY1 : Hid ((((w.alloc (.cells zcV 106)).alloc (.cells #[.int .u64 (G : Int), .int .u64 (N : Int), .int .i64 (P : Int), .int .i64 (Q : Int), .string (Mt.str B)] 106)).drew).heap[w.heap.size]? = some (.cells zcV 106 (0, 0))) := Lib.hid ((((Below.refl _ (w.alloc (.cells zcV 106))).alloc (Nat.le_refl _) _).block w.heap.size (by simp)).trans HY.out)
  clear hz0
  unfold clV
  simp only
  generalize (Mt.Cl.mk G N P Q B).sound = so at *
  generalize Mt.str (Mt.Cl.mk G N P Q B).sector = S at *
  generalize Mt.str B = BS at *
  clear hG hN hP hQ hB hn h hm h110 hGl hNl hPl hQl hBl hfit
  go_enter Tryz.func64, Tryz.ntmps64
  go_wp2_with fail
  refine (HM.out _).mono ?_
  rintro e w1 ⟨rfl, rfl⟩
  go_wp2_with fail
  refine (HN0.out _).mono ?_
  rintro e w1 ⟨rfl, rfl⟩
  go_upto_region 6 with fail
  go_region_held3 (fun w' => w'.cell? ⟨w.heap.size, 0, none⟩ = some (.int .u64 0))
    (first
      | go_keep
      | exact qq)
    (first
      | (go_at_call 83; (with_reducible refine (HN1.out _).mono ?_); rintro e w2 ⟨rfl, rfl⟩)
      | (go_at_call 83; (with_reducible refine (HN2.out _).mono ?_); rintro e w2 ⟨rfl, rfl⟩)
      | (go_at_call 83; (with_reducible refine (HN3.out _).mono ?_); rintro e w2 ⟨rfl, rfl⟩)
      | (go_at_call 83; (with_reducible refine (HN4.out _).mono ?_); rintro e w2 ⟨rfl, rfl⟩))
  all_goals
    have hz1 := HZ.out
    have hy1 := HY1.out
    obtain ⟨k0, k1, k2, k3, k4⟩ := box5_of hz1
    clear hz1 hy1
    go_wp2_with fail
    refine (HSO.out _).mono ?_
    rintro e w1 ⟨rfl, hb⟩
    have hz2 := (hb.block _ (lt_of_block HZ.out)).trans HZ.out
    have hy2 := (hb.block _ (lt_of_block HY1.out)).trans HY1.out
    have HB2 := Lib.hid (HB1.out.trans (hb.mono HB1.out.size))
    obtain ⟨k0, k1, k2, k3, k4⟩ := box5_of hz2
    obtain ⟨l0, l1, l2, l3, l4⟩ := box5_of hy2
    have f0 : w1.frozen? ⟨w.heap.size, 0, none⟩ = false := frozen_of_row _ _ _ _ _ hy2
    have f1 : w1.frozen? ⟨w.heap.size, 1, none⟩ = false := frozen_of_row _ _ _ _ _ hy2
    have f2 : w1.frozen? ⟨w.heap.size, 2, none⟩ = false := frozen_of_row _ _ _ _ _ hy2
    have f3 : w1.frozen? ⟨w.heap.size, 3, none⟩ = false := frozen_of_row _ _ _ _ _ hy2
    have f4 : w1.frozen? ⟨w.heap.size, 4, none⟩ = false := frozen_of_row _ _ _ _ _ hy2
    have HZ2 := Lib.hid hz2
    have HY2 := Lib.hid hy2
    clear hz2 hy2 hb
    rcases hz with ⟨rfl, rfl, hc⟩ | ⟨rfl, rfl | ⟨rfl, hc⟩⟩
    · have d3 : (S.toList == s.toList) = true := by rw [hc]; simp
      clear hc
      go_wp2_with fail
      refine (HSE.out _).mono ?_
      rintro e w3 ⟨rfl, hb⟩
      have hz3 := (hb.block _ (lt_of_block HZ2.out)).trans HZ2.out
      have hy3 := (hb.block _ (lt_of_block HY2.out)).trans HY2.out
      have HB3 := Lib.hid (HB2.out.trans (hb.mono HB2.out.size))
      obtain ⟨k0, k1, k2, k3, k4⟩ := box5_of hz3
      obtain ⟨l0, l1, l2, l3, l4⟩ := box5_of hy3
      have f0 : w3.frozen? ⟨w.heap.size, 0, none⟩ = false := frozen_of_row _ _ _ _ _ hy3
      have f1 : w3.frozen? ⟨w.heap.size, 1, none⟩ = false := frozen_of_row _ _ _ _ _ hy3
      have f2 : w3.frozen? ⟨w.heap.size, 2, none⟩ = false := frozen_of_row _ _ _ _ _ hy3
      have f3 : w3.frozen? ⟨w.heap.size, 3, none⟩ = false := frozen_of_row _ _ _ _ _ hy3
      have f4 : w3.frozen? ⟨w.heap.size, 4, none⟩ = false := frozen_of_row _ _ _ _ _ hy3
      clear hz3 hy3 hb
      go_wp2_with fail
      refine bodyPost_ret (v := .agg #[.int .u64 (G : Int), .int .u64 (N : Int), .int .i64 (P : Int), .int .i64 (Q : Int), .string BS]) (by simp [results, Tryz.results64, go_sem, l0, l1, l2, l3, l4]) rfl ⟨rfl, ?_⟩
      exact cbox_below HB3.out (Nat.le_refl _) _ _ _ _ _
    · skip
      go_wp2_with fail
      refine bodyPost_ret (v := .agg zcV) (by simp [results, Tryz.results64, go_sem, l0, l1, l2, l3, l4]) rfl ⟨rfl, ?_⟩
      exact cbox_below HB2.out (Nat.le_refl _) _ _ _ _ _
    · have d3 : (S.toList == s.toList) = false := by simpa using hc
      clear hc
      go_wp2_with fail
      refine (HSE.out _).mono ?_
      rintro e w3 ⟨rfl, hb⟩
      have hy3 := (hb.block _ (lt_of_block HY2.out)).trans HY2.out
      have HB3 := Lib.hid (HB2.out.trans (hb.mono HB2.out.size))
      obtain ⟨l0, l1, l2, l3, l4⟩ := box5_of hy3
      have f0 : w3.frozen? ⟨w.heap.size, 0, none⟩ = false := frozen_of_row _ _ _ _ _ hy3
      have f1 : w3.frozen? ⟨w.heap.size, 1, none⟩ = false := frozen_of_row _ _ _ _ _ hy3
      have f2 : w3.frozen? ⟨w.heap.size, 2, none⟩ = false := frozen_of_row _ _ _ _ _ hy3
      have f3 : w3.frozen? ⟨w.heap.size, 3, none⟩ = false := frozen_of_row _ _ _ _ _ hy3
      have f4 : w3.frozen? ⟨w.heap.size, 4, none⟩ = false := frozen_of_row _ _ _ _ _ hy3
      clear hy3 hb
      go_wp2_with fail
      refine bodyPost_ret (v := .agg zcV) (by simp [results, Tryz.results64, go_sem, l0, l1, l2, l3, l4]) rfl ⟨rfl, ?_⟩
      exact cbox_below HB3.out (Nat.le_refl _) _ _ _ _ _
end Go.Proofs.YtnioagojiipjlaaGreat

/-
  How a journal lies in memory; readCell; what the journal's calls that only look come to: size, first, Left, Len, Gen.
-/
namespace Go.Proofs.YtnioagojiipjlaaGreat
open Go.RowKit

/-- A sector read as a cell. -/
theorem readCell_any (s : ByteArray) (w : World) : Calls Tryz.prog 64 #[.string s] w fun e w' => e = .returned (.agg (clV (Mt.rdCell s.data.toList))) ∧ Below w.heap.size w w' := by
  by_cases h : s.size = 128 ∧ s.data.toList.getD 4 0 = 67
  · obtain ⟨h1, h2⟩ := h
    have hl : s.data.toList.length = 128 := h1
    by_cases hn : Mt.gn s.data.toList 17 1 ≤ 110
    · have hcmp : ∀ L : List UInt8, (Mt.str L).toList = s.toList ↔ L = s.data.toList := fun L => by rw [ByteArray.toList_eq, ByteArray.toList_eq]; rfl
      have H := fun z hz => rcell_yes s w h1 h2 _ _ _ _ _ _ rfl rfl rfl rfl rfl rfl hn z hz
      by_cases hc : (Mt.cl0 s.data.toList).sound = true ∧ (Mt.cl0 s.data.toList).sector = s.data.toList
      · have e : Mt.rdCell s.data.toList = Mt.cl0 s.data.toList := by unfold Mt.rdCell; rw [if_pos ⟨hl, h2, hn, hc.1, hc.2⟩]
        rw [e]
        exact H false (.inl ⟨rfl, hc.1, (hcmp _).2 hc.2⟩)
      · have e : Mt.rdCell s.data.toList = Mt.Cl.zero := by
          unfold Mt.rdCell
          rw [if_neg]
          rintro ⟨_, _, _, a, b⟩
          exact hc ⟨a, b⟩
        rw [e]
        refine H true (.inr ⟨rfl, ?_⟩)
        cases hs : (Mt.cl0 s.data.toList).sound with
        | false => exact .inl hs
        | true => exact .inr ⟨hs, fun e => hc ⟨hs, (hcmp _).1 e⟩⟩
    · have e : Mt.rdCell s.data.toList = Mt.Cl.zero := by unfold Mt.rdCell; rw [if_neg (fun hc => hn hc.2.2.1)]
      rw [e]
      exact rcell_long s w h1 h2 _ rfl (by omega)
  · have e : Mt.rdCell s.data.toList = Mt.Cl.zero := by unfold Mt.rdCell; rw [if_neg (fun hc => h ⟨hc.1, hc.2.1⟩)]
    rw [e]
    exact rcell_no s w h

/-- A journal's cells. -/
def jnV (B : Nat) (j : Mt.Jn) : Array Value := #[.pointer (some ⟨B, 0, none⟩), .int .u64 (j.gen : Int), .int .i64 (j.half : Int), .int .i64 (j.head : Int), .int .i64 (j.count : Int), .int .i64 (j.used : Int), .bool j.closed]
def IsJ (w : World) (J B : Nat) (j : Mt.Jn) : Prop := w.heap[J]? = some (.cells (jnV B j) 94 (0, 0))
theorem Tryz.szJn : (Tryz.prog.info? 94).map (·.size) = some 7 := by kernel_rfl
/-- A journal and its disk. -/
structure JD (w : World) (J B bl bm : Nat) (j : Mt.Jn) (d : Mt.Dk) : Prop where
  jn : IsJ w J B j
  dk : IsDisk w B bl bm d
  four : 4 ≤ d.lasts.length
  half : j.half ≤ 1
  head : j.head ≤ 1
  gen : j.gen ≤ 4294967296
  used : j.used ≤ 8192
  count : j.count ≤ 8192
section
variable {w u : World} {J B bl bm : Nat} {j : Mt.Jn} {d : Mt.Dk}
theorem IsJ.cells (h : IsJ w J B j) : w.cell? ⟨J, 0, none⟩ = some (.pointer (some ⟨B, 0, none⟩)) ∧ w.cell? ⟨J, 1, none⟩ = some (.int .u64 (j.gen : Int)) ∧ w.cell? ⟨J, 2, none⟩ = some (.int .i64 (j.half : Int)) ∧ w.cell? ⟨J, 3, none⟩ = some (.int .i64 (j.head : Int)) ∧ w.cell? ⟨J, 4, none⟩ = some (.int .i64 (j.count : Int)) ∧ w.cell? ⟨J, 5, none⟩ = some (.int .i64 (j.used : Int)) ∧ w.cell? ⟨J, 6, none⟩ = some (.bool j.closed) := by
  unfold IsJ jnV at h
  simp [World.cell?, h]
theorem IsJ.frozen (h : IsJ w J B j) (i : Nat) : w.frozen? ⟨J, i, none⟩ = false := frozen_of_row _ _ _ _ _ h
theorem IsJ.below (h : IsJ w J B j) (hb : Below w.heap.size w u) : IsJ u J B j := (hb.block _ (lt_of_block h)).trans h
theorem JD.below (h : JD w J B bl bm j d) (hb : Below w.heap.size w u) : JD u J B bl bm j d := ⟨h.jn.below hb, h.dk.below hb, h.four, h.half, h.head, h.gen, h.used, h.count⟩
theorem JD.neJ (h : JD w J B bl bm j d) : J ≠ B ∧ J ≠ bl ∧ J ≠ bm := by
  have h1 := h.jn
  refine ⟨?_, ?_, ?_⟩
  · rintro rfl
    have h2 := h.dk.row
    unfold IsJ at h1
    rw [h1] at h2
    simp [jnV, dkCells] at h2
  · rintro rfl
    have h2 := h.dk.secs
    unfold IsJ at h1
    rw [h1] at h2
    simp at h2
  · rintro rfl
    obtain ⟨D, hD, _⟩ := h.dk.waits
    exact ownsMap_ne hD h1 rfl
theorem hsize_le (h : JD w J B bl bm j d) : Mt.hsize d.lasts.length ≤ 4095 := by have := h.dk.ok.most; unfold Mt.hsize; omega

theorem size_any (h : JD w J B bl bm j d) : Calls Tryz.prog 60 #[.pointer (some ⟨J, 0, none⟩)] w fun e w' => e = .returned (.int .i64 (Mt.hsize d.lasts.length : Int)) ∧ w = w' := by
  have hc := h.jn.cells.1
  have HS := Lib.hid (sectors_any h.dk)
  have hn := h.dk.ok.most
  have h4 := h.four
  have HR := Lib.hid (show (Mt.hsize d.lasts.length : Int) = (((d.lasts.length - 2) / 2 : Nat) : Int) from rfl)
  generalize (Mt.hsize d.lasts.length : Int) = r at HR ⊢
  generalize d.lasts.length = n at *
  clear h
  go_enter Tryz.func60, Tryz.ntmps60
  go_wp2_with fail
  refine (HS.out).mono ?_
  rintro e w1 ⟨rfl, rfl⟩
  go_wp2_with fail
  go_ret
  exact ⟨Mt.ret_int (by rw [HR.out]; omega), rfl⟩
theorem first_any (h : JD w J B bl bm j d) : Calls Tryz.prog 59 #[.pointer (some ⟨J, 0, none⟩)] w fun e w' => e = .returned (.int .i64 (j.first d.lasts.length : Int)) ∧ Below w.heap.size w w' := by
  obtain ⟨z, hz⟩ : ∃ z, Mt.hsize d.lasts.length = z := ⟨_, rfl⟩
  have hc := h.jn.cells.2.2.1
  have HS : Hid (∀ u, Below w.heap.size w u → Calls Tryz.prog 60 #[.pointer (some ⟨J, 0, none⟩)] u fun e w' => e = .returned (.int .i64 (z : Int)) ∧ u = w') := Lib.hid (fun u hb => by rw [← hz]; exact size_any (h.below hb))
  have HC := Lib.hid (fun u (hb : Below w.heap.size w u) => (h.below hb).jn.cells.2.2.1)
  have hzl : z ≤ 4095 := by rw [← hz]; exact hsize_le h
  have hh := h.half
  have HR := Lib.hid (show (j.first d.lasts.length : Int) = ((2 + j.half * z : Nat) : Int) by rw [← hz]; rfl)
  generalize (j.first d.lasts.length : Int) = r at HR ⊢
  generalize j.half = k at *
  have hk : k = 0 ∨ k = 1 := by omega
  have h1 : IntKind.i64.wrap ((k : Int) * (z : Int)) = (k : Int) * (z : Int) := IntWalk.i64_in _ (by rcases hk with rfl | rfl <;> omega)
  have h2 : IntKind.i64.wrap (2 + (k : Int) * (z : Int)) = 2 + (k : Int) * (z : Int) := IntWalk.i64_in _ (by rcases hk with rfl | rfl <;> omega)
  have HK := Lib.hid ((Below.refl w.heap.size w).drew)
  clear h hz hh
  go_enter Tryz.func59, Tryz.ntmps59
  go_upto_region 1 with fail
  go_region_held3 (fun w' => w'.cell? ⟨J, 2, none⟩ = some (.int .i64 (k : Int)))
    (first
      | go_keep
      | exact qq)
    (first
      | (go_at_call 60; (with_reducible refine (HS.out _ HK.out).mono ?_); rintro e w2 ⟨rfl, rfl⟩))
  all_goals
    go_wp2_with fail
    go_ret
    exact ⟨Mt.ret_int (by rw [HR.out]; simp), HK.out⟩
end
end Go.Proofs.YtnioagojiipjlaaGreat

/-
  What the document's Get comes to, at every text, place and count.
-/
namespace Go.Proofs.YtnioagojiipjlaaGreat
open Go.RowKit

theorem rget_size (s : ByteArray) (at' size : Int) (w : World) (h : size < 1 ∨ 8 < size) :
    Calls Tryz.prog 87 #[.string s, .int .i64 at', .int .i64 size] w fun e w' => e = .returned (.tuple #[.int .u64 0, .bool false]) ∧ w = w' := by
  rcases h with h | h
  · go_enter Tryz.func87, Tryz.ntmps87
    go_wp2
    go_ret2
    exact ⟨rfl, rfl⟩
  · have hd : decide (size < 1) = false := by simp; omega
    go_enter Tryz.func87, Tryz.ntmps87
    go_wp2
    go_ret2
    exact ⟨rfl, rfl⟩

theorem rget_neg (s : ByteArray) (at' size : Int) (w : World) (h1 : 1 ≤ size) (h2 : size ≤ 8) (h : at' < 0) :
    Calls Tryz.prog 87 #[.string s, .int .i64 at', .int .i64 size] w fun e w' => e = .returned (.tuple #[.int .u64 0, .bool false]) ∧ w = w' := by
  have hd : decide (size < 1) = false := by simp; omega
  have hd2 : decide (8 < size) = false := by simp; omega
  go_enter Tryz.func87, Tryz.ntmps87
  go_wp2
  go_ret2
  exact ⟨rfl, rfl⟩

theorem rget_far (s : ByteArray) (at' size : Int) (w : World) (hs : s.size ≤ 140737488351232) (h1 : 1 ≤ size) (h2 : size ≤ 8) (h0 : 0 ≤ at') (h : (s.size : Int) - size < at') :
    Calls Tryz.prog 87 #[.string s, .int .i64 at', .int .i64 size] w fun e w' => e = .returned (.tuple #[.int .u64 0, .bool false]) ∧ w = w' := by
  have hd : decide (size < 1) = false := by simp; omega
  have hd2 : decide (8 < size) = false := by simp; omega
  have hd3 : decide (at' < 0) = false := by simp; omega
  by_cases hl : (s.size : Int) < size
  · go_enter Tryz.func87, Tryz.ntmps87
    go_wp2
    go_ret2
    exact ⟨rfl, rfl⟩
  · have hd4 : decide ((s.size : Int) < size) = false := by simp; omega
    go_enter Tryz.func87, Tryz.ntmps87
    go_wp2
    go_ret2
    exact ⟨rfl, rfl⟩

set_option maxHeartbeats 400000 in
set_option maxRecDepth 100000 in
theorem rget_yes (s : ByteArray) (a size : Nat) (w : World) (hs : s.size ≤ 140737488351232) (h1 : 1 ≤ size) (h2 : size ≤ 8) (h : a + size ≤ s.size) :
    Calls Tryz.prog 87 #[.string s, .int .i64 a, .int .i64 size] w fun e w' => e = .returned (.tuple #[.int .u64 (Mt.gn s.data.toList a size), .bool true]) ∧ w = w' := by
  have hd : decide ((a : Int) < 0) = false := by simp
  have hd1 : decide ((size : Int) < 1) = false := by simp; omega
  have hd3 : decide ((8 : Int) < (size : Int)) = false := by simp; omega
  have hd4 : decide (s.size < size) = false := by simp; omega
  have hd2 : decide ((s.size : Int) - (size : Int) < (a : Int)) = false := by simp; omega
  have hs2 : (size : Int) ≤ 8 := by omega
  go_enter Tryz.func87, Tryz.ntmps87
  go_wp2
  go_loop [8, 9] (fun n i => ∃ k : Nat, k ≤ size ∧ i = .int .i64 k ∧ n = .int .u64 (Mt.gn s.data.toList a k)) (fun _ i => size - (intOf i).toNat)
  case atStart => exact ⟨0, Nat.zero_le _, rfl, rfl⟩
  case round =>
    obtain ⟨k, hk, rfl, rfl⟩ := hrel
    by_cases hlt : k < size
    · have hg := Mt.gn_lt56 s.data.toList a k (by omega)
      have HG := Lib.hid (show Mt.gn s.data.toList a (k + 1) = 256 * Mt.gn s.data.toList a k + (s.data.toList.getD (a + k) 0).toNat from rfl)
      obtain ⟨g, hge⟩ : ∃ g, Mt.gn s.data.toList a k = g := ⟨_, rfl⟩
      rw [hge] at hg HG ⊢
      clear hge
      have hin : a + k < s.size := by omega
      have hce : s.data.toList.getD (a + k) 0 = s[a + k] := by
        simp [List.getD, List.getElem?_eq_getElem (show a + k < s.data.toList.length by simpa using hin)]; rfl
      rw [hce] at HG
      clear hce
      obtain ⟨c, hc⟩ : ∃ c, s[a + k] = c := ⟨_, rfl⟩
      rw [hc] at HG
      have hc256 : (c.toNat : Int) < 256 := by have := c.toNat_lt; omega
      have HGB := Lib.hid hg
      clear hg
      go_wp2
      go_round
      case rel =>
        refine ⟨k + 1, by omega, by go_num, ?_⟩
        have hgb := HGB.out
        rw [HG.out]
        congr 1
        simp [IntKind.wrap, IntKind.bits, IntKind.signed]
        omega
      case measure => simp [intOf]; omega
    · go_wp2
      go_ret2
      obtain rfl : k = size := by omega
      exact ⟨rfl, rfl⟩

end Go.Proofs.YtnioagojiipjlaaGreat

/-
  The document's num, ReadHead and Read.
-/
namespace Go.Proofs.YtnioagojiipjlaaGreat
open Go.RowKit
theorem rnum_yes (s : ByteArray) (a k : Nat) (w : World) (hs : s.size ≤ 140737488351232) (h1 : 1 ≤ k) (h2 : k ≤ 4) (h : a + k ≤ s.size) :
    Calls Tryz.prog 69 #[.string s, .int .i64 (a : Int), .int .i64 (k : Int)] w fun e w' => e = .returned (.int .i64 (Mt.gn s.data.toList a k : Int)) ∧ w = w' := by
  have HG := Lib.hid (fun u => rget_yes s a k u hs h1 (by omega) h)
  have hl := Mt.gn_lt s.data.toList a k
  have hk : 256 ^ k ≤ 4294967296 := Nat.le_trans (Nat.pow_le_pow_right (by omega) h2) (by decide)
  generalize Mt.gn s.data.toList a k = n at *
  have hn : n < 4294967296 := by omega
  have hw : IntKind.i64.wrap (n : Int) = (n : Int) := IntWalk.i64_in _ (by omega)
  have hw2 : wrap64 (n : Int) = (n : Int) := by simp only [wrap64]; omega
  clear hl hk h1 h2 h hs hn
  go_enter Tryz.func69, Tryz.ntmps69
  go_wp2_with fail
  refine (HG.out _).mono ?_
  rintro e w1 ⟨rfl, rfl⟩
  go_wp2_with fail
  go_ret
  exact ⟨by first | rfl | rw [hw2], rfl⟩
theorem rnum_no (s : ByteArray) (a k : Nat) (w : World) (hs : s.size ≤ 140737488351232) (h1 : 1 ≤ k) (h2 : k ≤ 8) (h : s.size < a + k) :
    Calls Tryz.prog 69 #[.string s, .int .i64 (a : Int), .int .i64 (k : Int)] w fun e w' => e = .returned (.int .i64 0) ∧ w = w' := by
  have HG := Lib.hid (fun u => rget_far s (a : Int) (k : Int) u hs (by omega) (by omega) (by omega) (by omega))
  clear h1 h2 h hs
  go_enter Tryz.func69, Tryz.ntmps69
  go_wp2_with fail
  refine (HG.out _).mono ?_
  rintro e w1 ⟨rfl, rfl⟩
  go_wp2_with fail
  go_ret
  exact ⟨rfl, rfl⟩
/-- What ReadHead answers. -/
def rhdV (z : Bool) (g k : Nat) : Value := if z = true then .tuple #[.int .i64 0, .int .i64 0, .bool false] else .tuple #[.int .i64 (g : Int), .int .i64 (k : Int), .bool true]
set_option maxRecDepth 100000 in
theorem rrhead_yes (s : ByteArray) (w : World) (h : s.size = 128) (G H : Nat) (hG : Mt.gn s.data.toList 5 4 = G) (hH : Mt.gn s.data.toList 9 1 = H) (z : Bool) (hz : HdTest G H s z) :
    Calls Tryz.prog 42 #[.string s] w fun e w' => e = .returned (rhdV z G H) ∧ Below w.heap.size w w' := by
  have hGl : G < 4294967296 := by rw [← hG]; have := Mt.gn_lt s.data.toList 5 4; omega
  have hHl : H < 256 := by rw [← hH]; have := Mt.gn_lt s.data.toList 9 1; omega
  have HN1 : Hid (∀ u, Calls Tryz.prog 69 #[.string s, .int .i64 5, .int .i64 4] u fun e w' => e = .returned (.int .i64 (G : Int)) ∧ u = w') := Lib.hid (fun u => by have := rnum_yes s 5 4 u (by omega) (by omega) (by omega) (by omega); rw [hG] at this; exact this)
  have HN2 : Hid (∀ u, Calls Tryz.prog 69 #[.string s, .int .i64 9, .int .i64 1] u fun e w' => e = .returned (.int .i64 (H : Int)) ∧ u = w') := Lib.hid (fun u => by have := rnum_yes s 9 1 u (by omega) (by omega) (by omega) (by omega); rw [hH] at this; exact this)
  have HS : Hid (∀ u, Calls Tryz.prog 52 #[.int .i64 (G : Int), .int .i64 (H : Int)] u fun e w' => e = .returned (.string (Mt.str (Mt.hdSector G H))) ∧ Below u.heap.size u w') := Lib.hid (fun u => rhead_any G H hGl hHl u)
  clear hG hH h
  unfold HdTest at hz
  generalize Mt.str (Mt.hdSector G H) = S at *
  unfold rhdV
  rcases hz with ⟨rfl, hg, hh, hc⟩ | ⟨rfl, hg | ⟨hg, hh⟩ | ⟨hg, hh, hc⟩⟩
  · have d1 : decide ((G : Int) < 1) = false := decide_eq_false (by omega)
    have d1' : decide (G < 1) = false := decide_eq_false (by omega)
    have d2 : decide ((1 : Int) < (H : Int)) = false := decide_eq_false (by omega)
    have d2' : decide (1 < H) = false := decide_eq_false (by omega)
    have d3 : (S.toList == s.toList) = true := by rw [hc]; simp
    clear hc hg hh
    go_enter Tryz.func42, Tryz.ntmps42
    go_wp2_with fail
    refine (HN1.out _).mono ?_
    rintro e w1 ⟨rfl, rfl⟩
    go_wp2_with fail
    refine (HN2.out _).mono ?_
    rintro e w1 ⟨rfl, rfl⟩
    go_wp2_with fail
    refine (HS.out _).mono ?_
    rintro e w1 ⟨rfl, hb⟩
    have HB := Lib.hid hb
    clear hb
    go_wp2_with fail
    go_ret3
    exact ⟨rfl, HB.out⟩
  · have d1 : decide ((G : Int) < 1) = true := decide_eq_true (by omega)
    have d1' : decide (G < 1) = true := decide_eq_true (by omega)
    clear hg
    go_enter Tryz.func42, Tryz.ntmps42
    go_wp2_with fail
    refine (HN1.out _).mono ?_
    rintro e w1 ⟨rfl, rfl⟩
    go_wp2_with fail
    refine (HN2.out _).mono ?_
    rintro e w1 ⟨rfl, rfl⟩
    go_wp2_with fail
    go_ret3
    exact ⟨rfl, Below.refl _ _⟩
  · have d1 : decide ((G : Int) < 1) = false := decide_eq_false (by omega)
    have d1' : decide (G < 1) = false := decide_eq_false (by omega)
    have d2 : decide ((1 : Int) < (H : Int)) = true := decide_eq_true (by omega)
    have d2' : decide (1 < H) = true := decide_eq_true (by omega)
    clear hg hh
    go_enter Tryz.func42, Tryz.ntmps42
    go_wp2_with fail
    refine (HN1.out _).mono ?_
    rintro e w1 ⟨rfl, rfl⟩
    go_wp2_with fail
    refine (HN2.out _).mono ?_
    rintro e w1 ⟨rfl, rfl⟩
    go_wp2_with fail
    go_ret3
    exact ⟨rfl, Below.refl _ _⟩
  · have d1 : decide ((G : Int) < 1) = false := decide_eq_false (by omega)
    have d1' : decide (G < 1) = false := decide_eq_false (by omega)
    have d2 : decide ((1 : Int) < (H : Int)) = false := decide_eq_false (by omega)
    have d2' : decide (1 < H) = false := decide_eq_false (by omega)
    have d3 : (S.toList == s.toList) = false := by simpa using hc
    clear hc hg hh
    go_enter Tryz.func42, Tryz.ntmps42
    go_wp2_with fail
    refine (HN1.out _).mono ?_
    rintro e w1 ⟨rfl, rfl⟩
    go_wp2_with fail
    refine (HN2.out _).mono ?_
    rintro e w1 ⟨rfl, rfl⟩
    go_wp2_with fail
    refine (HS.out _).mono ?_
    rintro e w1 ⟨rfl, hb⟩
    have HB := Lib.hid hb
    clear hb
    go_wp2_with fail
    go_ret3
    exact ⟨rfl, HB.out⟩
/-- A sector read as a head. -/
theorem rrhead_any (l : List UInt8) (w : World) (h1 : l.length = 128) : Calls Tryz.prog 42 #[.string (Mt.str l)] w fun e w' => e = .returned (.tuple #[.int .i64 ((Mt.rdHead l).1 : Int), .int .i64 ((Mt.rdHead l).2 : Int), .bool (decide ((Mt.rdHead l).1 ≠ 0))]) ∧ Below w.heap.size w w' := by
  have hsz : (Mt.str l).size = 128 := by rw [Mt.str_size, h1]
  have hcmp : ∀ G H : Nat, (Mt.str (Mt.hdSector G H)).toList = (Mt.str l).toList ↔ Mt.hdSector G H = l := fun G H => by rw [ByteArray.toList_eq, ByteArray.toList_eq]; rfl
  obtain ⟨G, hG⟩ : ∃ G, Mt.gn l 5 4 = G := ⟨_, rfl⟩
  obtain ⟨H, hH⟩ : ∃ H, Mt.gn l 9 1 = H := ⟨_, rfl⟩
  by_cases hc : G ≠ 0 ∧ H ≤ 1 ∧ Mt.hdSector G H = l
  · have := rrhead_yes (Mt.str l) w hsz G H hG hH false (.inl ⟨rfl, hc.1, hc.2.1, (hcmp _ _).2 hc.2.2⟩)
    have e : Mt.rdHead l = (G, H) := by
      unfold Mt.rdHead
      rw [if_pos ⟨h1, by rw [← hc.2.2]; exact Mt.mark_head G H, by rw [hG]; exact hc.1, by rw [hH]; exact hc.2.1, by rw [hG, hH]; exact hc.2.2⟩, hG, hH]
    rw [e]
    have e2 : decide ((G, H).1 ≠ 0) = true := decide_eq_true hc.1
    rw [e2]
    exact this
  · have := rrhead_yes (Mt.str l) w hsz G H hG hH true (.inr ⟨rfl, by
        by_cases a : G = 0
        · exact .inl a
        · by_cases b : 1 < H
          · exact .inr (.inl ⟨a, b⟩)
          · exact .inr (.inr ⟨a, by omega, fun e => hc ⟨a, by omega, (hcmp _ _).1 e⟩⟩)⟩)
    have e : Mt.rdHead l = (0, 0) := by
      unfold Mt.rdHead
      rw [if_neg]
      rintro ⟨_, _, a, b, c⟩
      rw [hG] at a; rw [hH] at b; rw [hG, hH] at c
      exact hc ⟨a, b, c⟩
    rw [e]
    exact this
end Go.Proofs.YtnioagojiipjlaaGreat
