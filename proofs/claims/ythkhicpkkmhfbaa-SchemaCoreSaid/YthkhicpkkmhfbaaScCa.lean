/-
  Two schemas held side by side.
-/
import Derived.Test.YthkhicpkkmhfbaaScYa
namespace Go.Proofs.Ythkhicpkkmhfbaa
open Go.RowKit

set_option maxRecDepth 100000 in
set_option maxHeartbeats 2000000 in
theorem alike13_any {l1 l2 : List (List UInt8)} {w : World} {a b : Value} (h1 : IsNms w a l1) (h2 : IsNms w b l2) (hn : l1.length ≤ 8796093022208) :
    Calls Try.prog 37 #[a, b] w fun e w' => e = .returned (.bool (decide (l1 = l2))) ∧ Below w.heap.size w w' := by
  obtain ⟨x, xc, rfl, hxc, HX⟩ := h1
  obtain ⟨y, yc, rfl, hyc, HY⟩ := h2
  obtain ⟨n, hn1⟩ : ∃ n, l1.length = n := ⟨_, rfl⟩
  obtain ⟨m, hm1⟩ : ∃ m, l2.length = m := ⟨_, rfl⟩
  have HN := Lib.hid (And.intro hn1 hm1)
  rw [hn1] at hxc hn ⊢
  rw [hm1] at hyc ⊢
  obtain ⟨R, hR⟩ : ∃ R, decide (l1 = l2) = R := ⟨_, rfl⟩
  rw [hR]
  have HR := Lib.hid hR
  clear hn1 hm1 hR
  by_cases hnm : n = m
  · subst hnm
    have d1 : ((n : Int) != (n : Int)) = false := by simp
    go_enter Try.func37, Try.ntmps37
    go_wp2_with fail
    go_loopw [13] (fun iv wr => ∃ i : Nat, i ≤ n ∧ iv = .int .i64 (i : Int) ∧ Hid (l1.take i = l2.take i) ∧ Hid (Below w.heap.size w wr)) (fun iv _ => n - (intOf iv).toNat)
    case atStart => exact ⟨0, Nat.zero_le _, rfl, Lib.hid (by simp), Lib.hid (Below.refl _ _)⟩
    case round =>
      obtain ⟨i, hi, rfl, HI, HB⟩ := hrel
      by_cases hlt : i < n
      · have e1 : decide ((i : Int) < (n : Int)) = true := decide_eq_true (by omega)
        have e2 : decide (i < n) = true := decide_eq_true hlt
        have hi1 : i < l1.length := by rw [HN.out.1]; exact hlt
        have hi2 : i < l2.length := by rw [HN.out.2]; exact hlt
        obtain ⟨b1, o1, e3, hb1, hc1⟩ := HX.out i hi1
        obtain ⟨b2, o2, e4, hb2, hc2⟩ := HY.out i hi2
        subst e3 e4
        have x0 := (HB.out.cell (p := ⟨b1, o1 + i, none⟩) hb1).trans hc1
        have y0 := (HB.out.cell (p := ⟨b2, o2 + i, none⟩) hb2).trans hc2
        have i0 : (0 : Int) ≤ (i : Int) := by omega
        have i1 : (i : Int) < (n : Int) := by omega
        have t1 := List.take_succ_eq_append_getElem hi1
        have t2 := List.take_succ_eq_append_getElem hi2
        have hnq : l1[i] ≠ l2[i] → l1 ≠ l2 := fun hh e => hh (by simp only [e])
        generalize l1[i] = p at *
        generalize l2[i] = q at *
        have e5 := Mt.str_beq p q
        by_cases hpq : p = q
        · subst hpq
          rw [decide_eq_true rfl] at e5
          have HI2 : Hid (l1.take (i + 1) = l2.take (i + 1)) := Lib.hid (by rw [t1, t2, HI.out])
          generalize Mt.str p = P at *
          clear hc1 hc2 hb1 hb2 t1 t2 hnq hi1 hi2
          go_upto_region 6 with fail
          go_quiet (fail)
          go_wp2_with fail
          go_roundw
          case rel => exact ⟨i + 1, by omega, by go_num, HI2, Lib.hid (Below.drewS HB.out _)⟩
          case measure => simp [intOf]; omega
        · rw [decide_eq_false hpq] at e5
          have HE : Hid (R = false) := Lib.hid (by rw [← HR.out]; exact decide_eq_false (hnq hpq))
          generalize Mt.str p = P at *
          generalize Mt.str q = Q at *
          clear hc1 hc2 hb1 hb2 t1 t2 hnq hi1 hi2 hpq
          go_upto_region 6 with fail
          go_quiet (fail)
          go_wp2_with fail
          all_goals (go_ret; exact ⟨Mt.ret_bool HE.out.symm, Below.drewS HB.out _⟩)
      · obtain rfl : i = n := by omega
        have e1 : decide ((i : Int) < (i : Int)) = false := decide_eq_false (by omega)
        have e2 : decide (i < i) = false := decide_eq_false (by omega)
        have HE : Hid (R = true) := Lib.hid (by
          rw [← HR.out]
          refine decide_eq_true ?_
          have := HI.out
          rwa [List.take_of_length_le (by rw [HN.out.1]; exact Nat.le_refl _), List.take_of_length_le (by rw [HN.out.2]; exact Nat.le_refl _)] at this)
        go_wp2_with fail
        all_goals (go_ret; exact ⟨Mt.ret_bool HE.out.symm, HB.out⟩)
  · have d1 : ((n : Int) != (m : Int)) = true := by simp; omega
    have d2 : ((n : Int) == (m : Int)) = false := by simp; omega
    have HE : Hid (R = false) := Lib.hid (by rw [← HR.out]; exact decide_eq_false (fun e => hnm (by rw [← HN.out.1, ← HN.out.2, e])))
    go_enter Try.func37, Try.ntmps37
    go_wp2_with fail
    all_goals (go_ret; exact ⟨Mt.ret_bool HE.out.symm, Below.refl _ _⟩)
set_option maxRecDepth 100000 in
set_option maxHeartbeats 2000000 in
theorem sameClass_any {w : World} {N U : ByteArray} {k : Int} {mv yv mv' yv' : Value} {lm ly : List (List UInt8)} (h1 : IsNms w mv lm) (h2 : IsNms w yv ly) (h3 : IsNms w mv' lm) (h4 : IsNms w yv' ly) (hm : lm.length ≤ 8796093022208) (hy : ly.length ≤ 8796093022208) :
    Calls Try.prog 17 #[.agg #[.string N, .string U, .int .i64 k, mv, yv], .agg #[.string N, .string U, .int .i64 k, mv', yv']] w fun e w' => e = .returned (.bool true) ∧ Below w.heap.size w w' := by
  have HM := Lib.hid (fun (u : World) (hb : Below w.heap.size w u) => alike13_any (h1.below hb) (h3.below hb) hm)
  have HY := Lib.hid (fun (u : World) (hb : Below w.heap.size w u) => alike13_any (h2.below hb) (h4.below hb) hy)
  rw [decide_eq_true rfl] at HM HY
  obtain ⟨w1, hw1⟩ : ∃ u, w.alloc (.cells #[.string N, .string U, .int .i64 k, mv, yv] 31) = u := ⟨_, rfl⟩
  have hb1 : Below w.heap.size w w1 := by rw [← hw1]; exact (Below.refl _ w).alloc (Nat.le_refl _) _
  have hx1 : w1.heap[w.heap.size]? = some (.cells #[.string N, .string U, .int .i64 k, mv, yv] 31) := by rw [← hw1]; exact heap_alloc_new w _
  have hs1 : w1.heap.size = w.heap.size + 1 := by rw [← hw1]; simp
  obtain ⟨w2, hw2⟩ : ∃ u, w1.alloc (.cells #[.string N, .string U, .int .i64 k, mv', yv'] 31) = u := ⟨_, rfl⟩
  have hb2 : Below w1.heap.size w1 w2 := by rw [← hw2]; exact (Below.refl _ w1).alloc (Nat.le_refl _) _
  have hx2 : w2.heap[w1.heap.size]? = some (.cells #[.string N, .string U, .int .i64 k, mv', yv'] 31) := by rw [← hw2]; exact heap_alloc_new w1 _
  have hs2 : w2.heap.size = w.heap.size + 2 := by rw [← hw2]; simp [hs1]
  rw [hs1] at hx2
  have HB2 := Lib.hid (hb1.trans (hb2.mono (by omega)))
  have HX : Hid (∀ u, Below w2.heap.size w2 u → (u.cell? ⟨w.heap.size, 0, none⟩ = some (.string N) ∧ u.cell? ⟨w.heap.size, 1, none⟩ = some (.string U) ∧ u.cell? ⟨w.heap.size, 2, none⟩ = some (.int .i64 k) ∧ u.cell? ⟨w.heap.size, 3, none⟩ = some mv ∧ u.cell? ⟨w.heap.size, 4, none⟩ = some yv) ∧ (u.cell? ⟨w.heap.size + 1, 0, none⟩ = some (.string N) ∧ u.cell? ⟨w.heap.size + 1, 1, none⟩ = some (.string U) ∧ u.cell? ⟨w.heap.size + 1, 2, none⟩ = some (.int .i64 k) ∧ u.cell? ⟨w.heap.size + 1, 3, none⟩ = some mv' ∧ u.cell? ⟨w.heap.size + 1, 4, none⟩ = some yv')) := Lib.hid (fun u hu => by
    have r1 := (hu.block w.heap.size (by omega)).trans ((hb2.block w.heap.size (by omega)).trans hx1)
    have r2 := (hu.block (w.heap.size + 1) (by omega)).trans hx2
    exact ⟨(box5_of r1).1, (box5_of r2).1⟩)
  have eN : (N.toList == N.toList) = true := beq_self_eq_true _
  have eU : (U.toList == U.toList) = true := beq_self_eq_true _
  obtain ⟨⟨p0, p1, p2, p3, p4⟩, q0, q1, q2, q3, q4⟩ := HX.out w2 (Below.refl _ _)
  clear h1 h2 h3 h4 hb1 hb2 hx1 hx2
  go_enter Try.func17, Try.ntmps17
  go_wp2_with fail
  refine (HM.out _ HB2.out).mono ?_
  rintro e w3 ⟨rfl, hb⟩
  have HB3 := Lib.hid (HB2.out.trans (hb.mono HB2.out.size))
  clear p0 p1 p2 p3 p4 q0 q1 q2 q3 q4
  obtain ⟨⟨p0, p1, p2, p3, p4⟩, q0, q1, q2, q3, q4⟩ := HX.out w3 hb
  clear hb
  go_wp2_with fail
  refine (HY.out _ HB3.out).mono ?_
  rintro e w4 ⟨rfl, hb⟩
  have HB4 := Lib.hid (HB3.out.trans (hb.mono HB3.out.size))
  clear hb
  go_wp2_with fail
  all_goals (go_ret; exact ⟨rfl, HB4.out⟩)
set_option maxRecDepth 100000 in
set_option maxHeartbeats 4000000 in
theorem rsame13_any {w : World} {tv cv tv' cv' : Value} {s : Mt.Sc} (h1 : IsSc w tv cv s) (h2 : IsSc w tv' cv' s) :
    Calls Try.prog 25 #[.agg #[tv, cv], .agg #[tv', cv']] w fun e w' => e = .returned (.bool true) ∧ Below w.heap.size w w' := by
  have hlt := h1.tlen
  have hlc := h1.clen
  have HCM := Lib.hid h1.cnm
  obtain ⟨ta, tc, rfl, htc, HT⟩ := h1.types
  obtain ⟨ca, cc, rfl, hcc, HC⟩ := h1.classes
  obtain ⟨ta', tc', rfl, htc', HT'⟩ := h2.types
  obtain ⟨ca', cc', rfl, hcc', HC'⟩ := h2.classes
  obtain ⟨n, hn⟩ : ∃ n, s.types.length = n := ⟨_, rfl⟩
  obtain ⟨m, hm⟩ : ∃ n, s.classes.length = n := ⟨_, rfl⟩
  have HN := Lib.hid (And.intro hn hm)
  rw [hn] at hlt htc htc' ⊢
  rw [hm] at hlc hcc hcc' ⊢
  obtain ⟨w1, hw1⟩ : ∃ u, w.alloc (.cells #[.slice ta n tc, .slice ca m cc] 25) = u := ⟨_, rfl⟩
  have hb1 : Below w.heap.size w w1 := by rw [← hw1]; exact (Below.refl _ w).alloc (Nat.le_refl _) _
  have hx1 : w1.heap[w.heap.size]? = some (.cells #[.slice ta n tc, .slice ca m cc] 25) := by rw [← hw1]; exact heap_alloc_new w _
  have hs1 : w1.heap.size = w.heap.size + 1 := by rw [← hw1]; simp
  obtain ⟨w2, hw2⟩ : ∃ u, w1.alloc (.cells #[.slice ta' n tc', .slice ca' m cc'] 25) = u := ⟨_, rfl⟩
  have hb2 : Below w1.heap.size w1 w2 := by rw [← hw2]; exact (Below.refl _ w1).alloc (Nat.le_refl _) _
  have hx2 : w2.heap[w1.heap.size]? = some (.cells #[.slice ta' n tc', .slice ca' m cc'] 25) := by rw [← hw2]; exact heap_alloc_new w1 _
  have hs2 : w2.heap.size = w.heap.size + 2 := by rw [← hw2]; simp [hs1]
  rw [hs1] at hx2
  have HB2 := Lib.hid (hb1.trans (hb2.mono (by omega)))
  have HX : Hid (∀ u, Below w2.heap.size w2 u → (u.cell? ⟨w.heap.size, 0, none⟩ = some (.slice ta n tc) ∧ u.cell? ⟨w.heap.size, 1, none⟩ = some (.slice ca m cc)) ∧ (u.cell? ⟨w.heap.size + 1, 0, none⟩ = some (.slice ta' n tc') ∧ u.cell? ⟨w.heap.size + 1, 1, none⟩ = some (.slice ca' m cc')) ∧ Below w.heap.size w u) := Lib.hid (fun u hu => by
    have r1 := (hu.block w.heap.size (by omega)).trans ((hb2.block w.heap.size (by omega)).trans hx1)
    have r2 := (hu.block (w.heap.size + 1) (by omega)).trans hx2
    exact ⟨⟨by rw [cell_of_row _ _ _ _ _ _ r1]; rfl, by rw [cell_of_row _ _ _ _ _ _ r1]; rfl⟩, ⟨by rw [cell_of_row _ _ _ _ _ _ r2]; rfl, by rw [cell_of_row _ _ _ _ _ _ r2]; rfl⟩, HB2.out.trans (hu.mono (by omega))⟩)
  have en : ((n : Int) != (n : Int)) = false := by simp
  have em : ((m : Int) != (m : Int)) = false := by simp
  obtain ⟨⟨p0, p1⟩, ⟨q0, q1⟩, -⟩ := HX.out w2 (Below.refl _ _)
  clear h1 h2 hb1 hb2 hx1 hx2 hn hm
  go_enter Try.func25, Try.ntmps25
  go_wp2_with fail
  go_loopw [26] (fun iv wr => ∃ i : Nat, i ≤ n ∧ iv = .int .i64 (i : Int) ∧ Hid (Below w2.heap.size w2 wr)) (fun iv _ => n - (intOf iv).toNat)
  case atStart => exact ⟨0, Nat.zero_le _, rfl, Lib.hid (Below.refl _ _)⟩
  case round =>
    obtain ⟨i, hi, rfl, HR⟩ := hrel
    clear p0 p1 q0 q1
    obtain ⟨⟨p0, p1⟩, ⟨q0, q1⟩, hB⟩ := HX.out wr HR.out
    have HB := Lib.hid hB
    clear hB
    by_cases hlt2 : i < n
    · have e1 : decide ((i : Int) < (n : Int)) = true := decide_eq_true (by omega)
      have e2 : decide (i < n) = true := decide_eq_true hlt2
      have hit : i < s.types.length := by rw [HN.out.1]; exact hlt2
      obtain ⟨b, off, e0, hbl, h0, h1, h2, h3⟩ := HT.out i hit
      obtain ⟨b', off', e0', hbl', h0', h1', h2', h3'⟩ := HT'.out i hit
      subst e0 e0'
      have y0 := (HB.out.cell (p := ⟨b, off + i * 4, none⟩) hbl).trans h0
      have y1 := (HB.out.cell (p := ⟨b, off + i * 4 + 1, none⟩) hbl).trans h1
      have y2 := (HB.out.cell (p := ⟨b, off + i * 4 + 2, none⟩) hbl).trans h2
      have y3 := (HB.out.cell (p := ⟨b, off + i * 4 + 3, none⟩) hbl).trans h3
      have z0 := (HB.out.cell (p := ⟨b', off' + i * 4, none⟩) hbl').trans h0'
      have z1 := (HB.out.cell (p := ⟨b', off' + i * 4 + 1, none⟩) hbl').trans h1'
      have z2 := (HB.out.cell (p := ⟨b', off' + i * 4 + 2, none⟩) hbl').trans h2'
      have z3 := (HB.out.cell (p := ⟨b', off' + i * 4 + 3, none⟩) hbl').trans h3'
      have i0 : (0 : Int) ≤ (i : Int) := by omega
      have i1 : (i : Int) < (n : Int) := by omega
      generalize Mt.str s.types[i].name = N at *
      generalize s.types[i].syn = sy at *
      generalize s.types[i].single = sg at *
      generalize s.types[i].oper = op at *
      have eN : (N.toList == N.toList) = true := beq_self_eq_true _
      have es : (sy == sy) = true := beq_self_eq_true _
      have eg : (sg == sg) = true := beq_self_eq_true _
      have eo : (op == op) = true := beq_self_eq_true _
      clear h0 h1 h2 h3 h0' h1' h2' h3' hbl hbl' hit
      go_upto_region 6 with fail
      go_quiet (fail)
      go_wp2_with fail
      go_roundw
      case rel => exact ⟨i + 1, by omega, by go_num, Lib.hid (Below.drewS HR.out _)⟩
      case measure => simp [intOf]; omega
    · obtain rfl : i = n := by omega
      have e1 : decide ((i : Int) < (i : Int)) = false := decide_eq_false (by omega)
      have e2 : decide (i < i) = false := decide_eq_false (by omega)
      go_wp2_with fail
      go_loopw [44] (fun iv wr => ∃ j : Nat, j ≤ m ∧ iv = .int .i64 (j : Int) ∧ Hid (Below w2.heap.size w2 wr)) (fun iv _ => m - (intOf iv).toNat)
      case atStart => exact ⟨0, Nat.zero_le _, rfl, HR⟩
      case round =>
        obtain ⟨j, hj, rfl, HR⟩ := hrel
        clear p0 p1 q0 q1
        obtain ⟨⟨p0, p1⟩, ⟨q0, q1⟩, hB⟩ := HX.out wr HR.out
        have HB := Lib.hid hB
        clear hB
        by_cases hlt2 : j < m
        · have e1 : decide ((j : Int) < (m : Int)) = true := decide_eq_true (by omega)
          have e2 : decide (j < m) = true := decide_eq_true hlt2
          have hit : j < s.classes.length := by rw [HN.out.2]; exact hlt2
          obtain ⟨b, off, mv, yv, e0, hbl, h0, h1, h2, h3, h4, hmv, hyv⟩ := HC.out j hit
          obtain ⟨b', off', mv', yv', e0', hbl', h0', h1', h2', h3', h4', hmv', hyv'⟩ := HC'.out j hit
          subst e0 e0'
          have hcm := HCM.out _ (List.getElem_mem hit)
          have HY : Hid (∀ u, Below w.heap.size w u → (u.cell? ⟨b, off + j * 5, none⟩ = some (.string (Mt.str s.classes[j].name)) ∧ u.cell? ⟨b, off + j * 5 + 1, none⟩ = some (.string (Mt.str s.classes[j].sup)) ∧ u.cell? ⟨b, off + j * 5 + 2, none⟩ = some (.int .i64 s.classes[j].kind) ∧ u.cell? ⟨b, off + j * 5 + 3, none⟩ = some mv ∧ u.cell? ⟨b, off + j * 5 + 4, none⟩ = some yv) ∧ (u.cell? ⟨b', off' + j * 5, none⟩ = some (.string (Mt.str s.classes[j].name)) ∧ u.cell? ⟨b', off' + j * 5 + 1, none⟩ = some (.string (Mt.str s.classes[j].sup)) ∧ u.cell? ⟨b', off' + j * 5 + 2, none⟩ = some (.int .i64 s.classes[j].kind) ∧ u.cell? ⟨b', off' + j * 5 + 3, none⟩ = some mv' ∧ u.cell? ⟨b', off' + j * 5 + 4, none⟩ = some yv')) := Lib.hid (fun u hu =>
            ⟨⟨(hu.cell (p := ⟨b, _, none⟩) hbl).trans h0, (hu.cell (p := ⟨b, _, none⟩) hbl).trans h1, (hu.cell (p := ⟨b, _, none⟩) hbl).trans h2, (hu.cell (p := ⟨b, _, none⟩) hbl).trans h3, (hu.cell (p := ⟨b, _, none⟩) hbl).trans h4⟩,
             ⟨(hu.cell (p := ⟨b', _, none⟩) hbl').trans h0', (hu.cell (p := ⟨b', _, none⟩) hbl').trans h1', (hu.cell (p := ⟨b', _, none⟩) hbl').trans h2', (hu.cell (p := ⟨b', _, none⟩) hbl').trans h3', (hu.cell (p := ⟨b', _, none⟩) hbl').trans h4'⟩⟩)
          have HSC := Lib.hid (fun (N U : ByteArray) (k : Int) (u : World) (hu : Below w.heap.size w u) => sameClass_any (N := N) (U := U) (k := k) (hmv.below hu) (hyv.below hu) (hmv'.below hu) (hyv'.below hu) hcm.2.2.1 hcm.2.2.2.1)
          generalize Mt.str s.classes[j].name = N at *
          generalize Mt.str s.classes[j].sup = U at *
          generalize s.classes[j].kind = kc at *
          have i0 : (0 : Int) ≤ (j : Int) := by omega
          have i1 : (j : Int) < (m : Int) := by omega
          clear h0 h1 h2 h3 h4 h0' h1' h2' h3' h4' hbl hbl' hit hcm hmv hyv hmv' hyv'
          obtain ⟨⟨y0, y1, y2, y3, y4⟩, z0, z1, z2, z3, z4⟩ := HY.out wr HB.out
          go_upto_region 12 with fail
          have HBd := Lib.hid HB.out.drew
          have HRd := Lib.hid HR.out.drew
          go_region_held3 (fun w' => (w'.cell? ⟨w.heap.size, 1, none⟩ = some (.slice (some ⟨b, off, none⟩) m cc) ∧ w'.cell? ⟨w.heap.size + 1, 1, none⟩ = some (.slice (some ⟨b', off', none⟩) m cc')) ∧ (w'.cell? ⟨b, off + j * 5, none⟩ = some (.string N) ∧ w'.cell? ⟨b, off + j * 5 + 1, none⟩ = some (.string U) ∧ w'.cell? ⟨b, off + j * 5 + 2, none⟩ = some (.int .i64 kc) ∧ w'.cell? ⟨b, off + j * 5 + 3, none⟩ = some mv ∧ w'.cell? ⟨b, off + j * 5 + 4, none⟩ = some yv) ∧ (w'.cell? ⟨b', off' + j * 5, none⟩ = some (.string N) ∧ w'.cell? ⟨b', off' + j * 5 + 1, none⟩ = some (.string U) ∧ w'.cell? ⟨b', off' + j * 5 + 2, none⟩ = some (.int .i64 kc) ∧ w'.cell? ⟨b', off' + j * 5 + 3, none⟩ = some mv' ∧ w'.cell? ⟨b', off' + j * 5 + 4, none⟩ = some yv'))
            (first
              | with_reducible exact ⟨⟨p1, q1⟩, ⟨y0, y1, y2, y3, y4⟩, z0, z1, z2, z3, z4⟩
              | with_reducible exact ⟨⟨(HX.out _ HRd.out).1.2, (HX.out _ HRd.out).2.1.2⟩, HY.out _ HBd.out⟩
              | go_keep)
            (first
              | (go_at_call 17; (with_reducible refine (HSC.out N U kc _ HBd.out).mono ?_); rintro e w4 ⟨rfl, hb⟩; have HRd := Lib.hid (HRd.out.trans (hb.mono HRd.out.size)); have HBd := Lib.hid (HBd.out.trans (hb.mono HBd.out.size)); clear hb p0 p1 q0 q1 y0 y1 y2 y3 y4 z0 z1 z2 z3 z4))
          all_goals
            go_wp2_with fail
            go_roundw
            case rel => exact ⟨j + 1, by omega, by go_num, HRd⟩
            case measure => simp [intOf]; omega
        · obtain rfl : j = m := by omega
          have e1 : decide ((j : Int) < (j : Int)) = false := decide_eq_false (by omega)
          have e2 : decide (j < j) = false := decide_eq_false (by omega)
          go_wp2_with fail
          all_goals (go_ret; exact ⟨rfl, HB.out⟩)
end Go.Proofs.Ythkhicpkkmhfbaa
