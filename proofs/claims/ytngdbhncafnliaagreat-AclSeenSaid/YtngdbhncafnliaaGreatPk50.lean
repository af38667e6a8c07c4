/-
  Some texts of one proof, one behind the other.
-/
import Derived.Test.YtngdbhncafnliaaGreatPk34
import Derived.Test.YtngdbhncafnliaaGreatPk49
set_option linter.unusedVariables false
set_option linter.unusedSimpArgs false

/-
  Whether a case is small: it is so or not, and nothing is changed.
-/
namespace Go.Proofs.YtngdbhncafnliaaGreat
open Go.RowKit
set_option linter.unusedVariables false

/-- A truth was answered. -/
def IsBoo (e : Ending) : Prop := ∃ b, e = .returned (.bool b)
set_option maxRecDepth 100000 in
theorem fewNil_any (w : World) : Calls Tryz.prog 15 #[.slice none 0 0] w fun e w' => e = .returned (.bool true) ∧ Below w.heap.size w w' := by
  go_enter Tryz.func15, Tryz.ntmps15
  go_wp2_with fail
  go_loopw [9] (fun iv wr => iv = .int .i64 0 ∧ Hid (Below w.heap.size w wr)) (fun iv _ => 0)
  case atStart => exact ⟨rfl, Lib.hid (Below.refl _ _)⟩
  case round =>
    obtain ⟨rfl, HB⟩ := hrel
    go_wp2_with fail
    all_goals (go_ret; exact ⟨rfl, HB.out⟩)
set_option maxRecDepth 100000 in
set_option maxHeartbeats 4000000 in
theorem small16_any {w : World} {v1 v2 : Value} {d1 d2 : List (List Mt.Av)} (h1 : IsDn w v1 d1) (h2 : IsDn w v2 d2) :
    Calls Tryz.prog 22 #[.agg #[.int .i64 0, v1, v2, .slice none 0 0]] w fun e w' => IsBoo e ∧ Below w.heap.size w w' := by
  have hv1 := h1
  have hv2 := h2
  obtain ⟨a1, c1, rfl, -⟩ := h1
  obtain ⟨a2, c2, rfl, -⟩ := h2
  obtain ⟨w1, hw1⟩ : ∃ u, w.alloc (.cells #[.int .i64 0, .slice a1 d1.length c1, .slice a2 d2.length c2, .slice none 0 0] 59) = u := ⟨_, rfl⟩
  have hA1 : Below w.heap.size w w1 := by rw [← hw1]; exact (Below.refl _ w).alloc (Nat.le_refl _) _
  have hx1 : w1.heap[w.heap.size]? = some (.cells #[.int .i64 0, .slice a1 d1.length c1, .slice a2 d2.length c2, .slice none 0 0] 59) := by rw [← hw1]; exact heap_alloc_new w _
  have hs1 : w1.heap.size = w.heap.size + 1 := by rw [← hw1]; simp
  obtain ⟨w2, hw2⟩ : ∃ u, w1.alloc (.cells #[.slice a1 d1.length c1, .slice a2 d2.length c2] 23) = u := ⟨_, rfl⟩
  have hA2 : Below w1.heap.size w1 w2 := by rw [← hw2]; exact (Below.refl _ w1).alloc (Nat.le_refl _) _
  have hx2 : w2.heap[w1.heap.size]? = some (.cells #[.slice a1 d1.length c1, .slice a2 d2.length c2] 23) := by rw [← hw2]; exact heap_alloc_new w1 _
  have hs2 : w2.heap.size = w.heap.size + 2 := by rw [← hw2]; simp [hs1]
  rw [hs1] at hx2
  have HA2 := Lib.hid (hA1.trans (hA2.mono (by omega)))
  obtain ⟨q0, q1, q2, q3⟩ := (box4_of hx1).1
  have HU : Hid (∀ u, Below w2.heap.size w2 u → u.cell? ⟨w.heap.size, 3, none⟩ = some (.slice none 0 0) ∧ Below w.heap.size w u) := Lib.hid (fun u hu => by
    have r1 := (hu.block w.heap.size (by omega)).trans ((hA2.block w.heap.size (by omega)).trans hx1)
    exact ⟨by rw [cell_of_row _ _ _ _ _ _ r1]; rfl, HA2.out.trans (hu.mono HA2.out.size)⟩)
  have HK : Hid (∀ i, i < 2 → ∃ (p : List (List Mt.Av)) (ap : Option Addr) (cp : Nat), IsDn w (.slice ap p.length cp) p ∧ ∀ u, Below w2.heap.size w2 u → u.cell? ⟨w.heap.size + 1, i, none⟩ = some (.slice ap p.length cp)) := Lib.hid (fun i hi => by
    have hc : ∀ u, Below w2.heap.size w2 u → u.heap[w.heap.size + 1]? = some (.cells #[.slice a1 d1.length c1, .slice a2 d2.length c2] 23) := fun u hu => (hu.block (w.heap.size + 1) (by omega)).trans hx2
    have h01 : i = 0 ∨ i = 1 := by omega
    rcases h01 with rfl | rfl
    · exact ⟨d1, a1, c1, hv1, fun u hu => by rw [cell_of_row _ _ _ _ _ _ (hc u hu)]; rfl⟩
    · exact ⟨d2, a2, c2, hv2, fun u hu => by rw [cell_of_row _ _ _ _ _ _ (hc u hu)]; rfl⟩)
  have HFW := Lib.hid (fun u => fewNil_any u)
  clear hv1 hv2 hA1 hA2 hx1 hx2
  go_enter Tryz.func22, Tryz.ntmps22
  go_upto_region 2 with fail
  clear q0 q1 q2 q3
  go_loopw [15] (fun iv wr => ∃ i : Nat, i ≤ 2 ∧ iv = .int .i64 (i : Int) ∧ Hid (Below w2.heap.size w2 wr)) (fun iv _ => 2 - (intOf iv).toNat)
  case atStart => exact ⟨0, by omega, rfl, Lib.hid (Below.refl _ _)⟩
  case round =>
    obtain ⟨i, hi, rfl, HW⟩ := hrel
    obtain ⟨q3, hB⟩ := HU.out wr HW.out
    have HB := Lib.hid hB
    clear hB
    by_cases hlt : i < 2
    · have e1 : decide ((i : Int) < 2) = true := decide_eq_true (by omega)
      have e2 : decide (i < 2) = true := decide_eq_true hlt
      have i0 : (0 : Int) ≤ (i : Int) := by omega
      have i1 : (i : Int) < 2 := by omega
      obtain ⟨p, ap, cp, hp, hpc⟩ := HK.out i hlt
      have x0 := hpc wr HW.out
      have HX := Lib.hid hp.row
      have hpl := hp.len
      obtain ⟨np, hnp⟩ : ∃ n, p.length = n := ⟨_, rfl⟩
      have HNP := Lib.hid hnp
      rw [hnp] at x0 hpl
      clear hp hpc hnp
      by_cases h40 : 40 < np
      · have d1 : decide ((40 : Int) < (np : Int)) = true := decide_eq_true (by omega)
        have d2 : decide (40 < np) = true := decide_eq_true h40
        go_wp2_with fail
        all_goals (go_ret; exact ⟨⟨_, rfl⟩, HB.out⟩)
      have d1 : decide ((40 : Int) < (np : Int)) = false := decide_eq_false (by omega)
      have d2 : decide (40 < np) = false := decide_eq_false h40
      go_wp2_with fail
      obtain ⟨wo, rfl⟩ : ∃ wo, wo = wr := ⟨_, rfl⟩
      go_loopw [24] (fun jv wy => ∃ j : Nat, j ≤ np ∧ jv = .int .i64 (j : Int) ∧ Hid (Below w2.heap.size w2 wy)) (fun jv _ => np - (intOf jv).toNat)
      case atStart => exact ⟨0, Nat.zero_le _, rfl, HW⟩
      case round =>
        obtain ⟨j, hj, rfl, HY⟩ := hrel
        have HBy := Lib.hid (HU.out wr HY.out).2
        by_cases hlt2 : j < np
        · have f1 : decide ((j : Int) < (np : Int)) = true := decide_eq_true (by omega)
          have f2 : decide (j < np) = true := decide_eq_true hlt2
          have j0 : (0 : Int) ≤ (j : Int) := by omega
          have j1 : (j : Int) < (np : Int) := by omega
          have hjp : j < p.length := by rw [HNP.out]; exact hlt2
          obtain ⟨b, off, rfl, x, hx, hload⟩ := HX.out j hjp
          have y0 := hload wr HBy.out
          obtain ⟨xa, xc, rfl, hxn, hxc, -⟩ := id hx
          have HXR := Lib.hid hx.row
          obtain ⟨nr, hnr⟩ : ∃ n, p[j].length = n := ⟨_, rfl⟩
          have HNR := Lib.hid hnr
          rw [hnr] at y0 hxn hxc
          clear hload hx hnr
          go_wp2_with fail
          go_loopw [30] (fun kv wz => ∃ k : Nat, k ≤ nr ∧ kv = .int .i64 (k : Int) ∧ Hid (Below w2.heap.size w2 wz)) (fun kv _ => nr - (intOf kv).toNat)
          case atStart => exact ⟨0, Nat.zero_le _, rfl, HY⟩
          case round =>
            obtain ⟨k, hk, rfl, HZ⟩ := hrel
            have HBz := Lib.hid (HU.out wr HZ.out).2
            by_cases hlt3 : k < nr
            · have g1 : decide ((k : Int) < (nr : Int)) = true := decide_eq_true (by omega)
              have g2 : decide (k < nr) = true := decide_eq_true hlt3
              have k0 : (0 : Int) ≤ (k : Int) := by omega
              have k1 : (k : Int) < (nr : Int) := by omega
              have hkr : k < p[j].length := by rw [HNR.out]; exact hlt3
              obtain ⟨b2, off2, e2', hc2⟩ := HXR.out k hkr
              subst e2'
              obtain ⟨z0, z1⟩ := hc2 wr HBz.out
              generalize Mt.str (p[j])[k].1 = TB at *
              generalize Mt.str (p[j])[k].2 = VB at *
              obtain ⟨wa, hwa⟩ : ∃ u, wr.alloc (.cells #[.string TB, .string VB] 87) = u := ⟨_, rfl⟩
              have hAa : Below wr.heap.size wr wa := by rw [← hwa]; exact (Below.refl _ wr).alloc (Nat.le_refl _) _
              have hxa : wa.heap[wr.heap.size]? = some (.cells #[.string TB, .string VB] 87) := by rw [← hwa]; exact heap_alloc_new wr _
              obtain ⟨s0, s1⟩ := box2_of22 hxa
              have HWa := Lib.hid (HZ.out.trans (hAa.mono HZ.out.size))
              have HBa := Lib.hid (HU.out wa HWa.out).2
              clear hc2 hkr hAa hxa
              by_cases h10 : 10 < nr
              · have m1 : decide ((10 : Int) < (nr : Int)) = true := decide_eq_true (by omega)
                have m2 : decide (10 < nr) = true := decide_eq_true h10
                go_wp2_with fail
                all_goals (go_ret; exact ⟨⟨_, rfl⟩, HBa.out⟩)
              have m1 : decide ((10 : Int) < (nr : Int)) = false := decide_eq_false (by omega)
              have m2 : decide (10 < nr) = false := decide_eq_false h10
              by_cases h50 : 5000 < VB.size
              · have m3 : decide ((5000 : Int) < (VB.size : Int)) = true := decide_eq_true (by omega)
                have m4 : decide (5000 < VB.size) = true := decide_eq_true h50
                go_wp2_with fail
                all_goals (go_ret; exact ⟨⟨_, rfl⟩, HBa.out⟩)
              have m3 : decide ((5000 : Int) < (VB.size : Int)) = false := decide_eq_false (by omega)
              have m4 : decide (5000 < VB.size) = false := decide_eq_false h50
              go_wp2_with fail
              go_roundw
              case rel => exact ⟨k + 1, by omega, by go_num, HWa⟩
              case measure => simp [intOf]; omega
            · obtain rfl : k = nr := by omega
              have g1 : decide ((k : Int) < (k : Int)) = false := decide_eq_false (by omega)
              have g2 : decide (k < k) = false := decide_eq_false (by omega)
              go_wp2_with fail
              go_roundw
              case rel => exact ⟨j + 1, by omega, by go_num, HZ⟩
              case measure => simp [intOf]; omega
        · obtain rfl : j = np := by omega
          have f1 : decide ((j : Int) < (j : Int)) = false := decide_eq_false (by omega)
          have f2 : decide (j < j) = false := decide_eq_false (by omega)
          go_wp2_with fail
          go_roundw
          case rel => exact ⟨i + 1, by omega, by go_num, HY⟩
          case measure => simp [intOf]; omega
    · obtain rfl : i = 2 := by omega
      go_wp2_with fail
      refine (HFW.out _).mono ?_
      rintro e w9 ⟨rfl, hb⟩
      have HB9 := Lib.hid (HB.out.trans (hb.mono HB.out.size))
      clear hb
      go_wp2_with fail
      all_goals (go_ret; exact ⟨⟨_, rfl⟩, HB9.out⟩)
set_option maxRecDepth 100000 in
set_option maxHeartbeats 4000000 in
theorem small22_any {w : World} {v1 v2 v3 v4 : Value} {c : Mt.Ca} (h : IsCa w v1 v2 v3 v4 c) :
    Calls Tryz.prog 8 #[caV v1 v2 v3 v4 c] w fun e w' => IsBoo e ∧ Below w.heap.size w w' := by
  have HS1 := Lib.hid (fun (u : World) (hu : Below w.heap.size w u) => small16_any (h.admin.below hu) (h.who.below hu))
  have HS2 := Lib.hid (fun (u : World) (hu : Below w.heap.size w u) => small16_any (h.entry.below hu) (IsDn.nil u))
  have hl := h.rlen
  obtain ⟨a1, c1, rfl, -⟩ := h.admin
  obtain ⟨a2, c2, rfl, -⟩ := h.who
  obtain ⟨a3, c3, rfl, -⟩ := h.entry
  obtain ⟨ra, rc, rfl, hrc, HRS⟩ := h.rules
  have h0 : ([] : List (List Mt.Av)).length = 0 := rfl
  unfold caV
  generalize c.admin.length = n1 at *
  generalize c.who.length = n2 at *
  generalize c.entry.length = n3 at *
  generalize Mt.str c.att = AB at *
  generalize c.right = ri at *
  obtain ⟨m, hm⟩ : ∃ m, c.rules.length = m := ⟨_, rfl⟩
  have HM := Lib.hid hm
  rw [hm] at hrc hl ⊢
  obtain ⟨w1, hw1⟩ : ∃ u, w.alloc (.cells #[.slice a1 n1 c1, .slice a2 n2 c2, .slice a3 n3 c3, .slice ra m rc, .string AB, .int .i64 ri] 26) = u := ⟨_, rfl⟩
  have hA1 : Below w.heap.size w w1 := by rw [← hw1]; exact (Below.refl _ w).alloc (Nat.le_refl _) _
  have hx1 : w1.heap[w.heap.size]? = some (.cells #[.slice a1 n1 c1, .slice a2 n2 c2, .slice a3 n3 c3, .slice ra m rc, .string AB, .int .i64 ri] 26) := by rw [← hw1]; exact heap_alloc_new w _
  have HU : Hid (∀ u, Below w1.heap.size w1 u → u.heap[w.heap.size]? = some (.cells #[.slice a1 n1 c1, .slice a2 n2 c2, .slice a3 n3 c3, .slice ra m rc, .string AB, .int .i64 ri] 26) ∧ Below w.heap.size w u) := Lib.hid (fun u hu => ⟨(hu.block _ (lt_of_block hx1)).trans hx1, hA1.trans (hu.mono hA1.size)⟩)
  obtain ⟨q0, q1, q2, q3, q4, q5⟩ := box6_of hx1
  clear h hA1 hx1 hm h0
  go_enter Tryz.func8, Tryz.ntmps8
  go_upto_region 2 with fail
  clear q0 q1 q2 q3 q4 q5
  go_loopw [8] (fun iv wr => ∃ i : Nat, i ≤ m ∧ iv = .int .i64 (i : Int) ∧ Hid (Below w1.heap.size w1 wr)) (fun iv _ => m - (intOf iv).toNat)
  case atStart => exact ⟨0, Nat.zero_le _, rfl, Lib.hid (Below.refl _ _)⟩
  case round =>
    obtain ⟨i, hi, rfl, HW⟩ := hrel
    obtain ⟨hrow, hB⟩ := HU.out wr HW.out
    have HB := Lib.hid hB
    clear hB
    by_cases hlt : i < m
    · have e1 : decide ((i : Int) < (m : Int)) = true := decide_eq_true (by omega)
      have e2 : decide (i < m) = true := decide_eq_true hlt
      have i0 : (0 : Int) ≤ (i : Int) := by omega
      have i1 : (i : Int) < (m : Int) := by omega
      have hil : i < c.rules.length := by rw [HM.out]; exact hlt
      obtain ⟨b, off, e0, hbl, h0, h1, h2, h3, h4, h5⟩ := HRS.out i hil
      subst e0
      have x0 := (HB.out.cell (p := ⟨b, off + i * 6, none⟩) hbl).trans h0
      have x1 := (HB.out.cell (p := ⟨b, off + i * 6 + 1, none⟩) hbl).trans h1
      have x2 := (HB.out.cell (p := ⟨b, off + i * 6 + 2, none⟩) hbl).trans h2
      have x3 := (HB.out.cell (p := ⟨b, off + i * 6 + 3, none⟩) hbl).trans h3
      have x4 := (HB.out.cell (p := ⟨b, off + i * 6 + 4, none⟩) hbl).trans h4
      have x5 := (HB.out.cell (p := ⟨b, off + i * 6 + 5, none⟩) hbl).trans h5
      generalize Mt.str c.rules[i].dn = DB at *
      generalize Mt.str c.rules[i].wh = WB at *
      generalize Mt.str c.rules[i].att = TB at *
      generalize c.rules[i].who = wh at *
      generalize c.rules[i].rights = rg at *
      generalize c.rules[i].allow = al at *
      obtain ⟨wa, hwa⟩ : ∃ u, wr.alloc (.cells #[.int .i64 wh, .string DB, .string WB, .string TB, .int .i64 rg, .bool al] 54) = u := ⟨_, rfl⟩
      have hAa : Below wr.heap.size wr wa := by rw [← hwa]; exact (Below.refl _ wr).alloc (Nat.le_refl _) _
      have hxa : wa.heap[wr.heap.size]? = some (.cells #[.int .i64 wh, .string DB, .string WB, .string TB, .int .i64 rg, .bool al] 54) := by rw [← hwa]; exact heap_alloc_new wr _
      obtain ⟨s0, s1, s2, s3, s4, s5⟩ := box6_of hxa
      have HWa := Lib.hid (HW.out.trans (hAa.mono HW.out.size))
      obtain ⟨-, -, -, q3, -, -⟩ := box6_of (HU.out wa HWa.out).1
      have HBa := Lib.hid (HU.out wa HWa.out).2
      clear hbl h0 h1 h2 h3 h4 h5 hil hAa hxa hrow
      by_cases h40 : 40 < m
      · have d1 : decide ((40 : Int) < (m : Int)) = true := decide_eq_true (by omega)
        have d2 : decide (40 < m) = true := decide_eq_true h40
        go_wp2_with fail
        all_goals (go_ret; exact ⟨⟨_, rfl⟩, HBa.out⟩)
      have d1 : decide ((40 : Int) < (m : Int)) = false := decide_eq_false (by omega)
      have d2 : decide (40 < m) = false := decide_eq_false h40
      by_cases h50 : 5000 < DB.size
      · have d3 : decide ((5000 : Int) < (DB.size : Int)) = true := decide_eq_true (by omega)
        have d4 : decide (5000 < DB.size) = true := decide_eq_true h50
        go_wp2_with fail
        all_goals (go_ret; exact ⟨⟨_, rfl⟩, HBa.out⟩)
      have d3 : decide ((5000 : Int) < (DB.size : Int)) = false := decide_eq_false (by omega)
      have d4 : decide (5000 < DB.size) = false := decide_eq_false h50
      by_cases h51 : 5000 < WB.size
      · have d5 : decide ((5000 : Int) < (WB.size : Int)) = true := decide_eq_true (by omega)
        have d6 : decide (5000 < WB.size) = true := decide_eq_true h51
        go_wp2_with fail
        all_goals (go_ret; exact ⟨⟨_, rfl⟩, HBa.out⟩)
      have d5 : decide ((5000 : Int) < (WB.size : Int)) = false := decide_eq_false (by omega)
      have d6 : decide (5000 < WB.size) = false := decide_eq_false h51
      go_wp2_with fail
      go_roundw
      case rel => exact ⟨i + 1, by omega, by go_num, HWa⟩
      case measure => simp [intOf]; omega
    · obtain rfl : i = m := by omega
      have e1 : decide ((i : Int) < (i : Int)) = false := decide_eq_false (by omega)
      have e2 : decide (i < i) = false := decide_eq_false (by omega)
      obtain ⟨q0, q1, q2, q3, q4, q5⟩ := box6_of hrow
      have HC1 := Lib.hid (HS1.out _ HB.out)
      clear hrow
      go_wp2_with fail
      refine (HC1.out).mono ?_
      rintro e w5 ⟨⟨bb, rfl⟩, hb⟩
      have HW5 := Lib.hid (HW.out.trans (hb.mono HW.out.size))
      obtain ⟨hrow5, hB5⟩ := HU.out _ HW5.out
      have HB5 := Lib.hid hB5
      clear hb q0 q1 q2 q3 q4 q5 hB5
      obtain ⟨q0, q1, q2, q3, q4, q5⟩ := box6_of hrow5
      have HC2 := Lib.hid (HS2.out _ HB5.out)
      clear hrow5
      cases bb with
      | false =>
        go_wp2_with fail
        all_goals (go_ret; exact ⟨⟨_, rfl⟩, HB5.out⟩)
      | true =>
        go_wp2_with fail
        refine (HC2.out).mono ?_
        rintro e w6 ⟨⟨bb, rfl⟩, hb⟩
        have HB6 := Lib.hid (HB5.out.trans (hb.mono HB5.out.size))
        clear hb
        go_wp2_with fail
        all_goals (go_ret; exact ⟨⟨_, rfl⟩, HB6.out⟩)
end Go.Proofs.YtngdbhncafnliaaGreat

/-
  Rules of which a book was made may be; books side by side.
-/
namespace Go.Proofs.YtngdbhncafnliaaGreat
open Go.RowKit

theorem Mt.rdF_all {s : Mt.Sc} : ∀ (rs acc cs : List Mt.Ru), Mt.rdF s acc rs = .ok cs → ∀ r ∈ rs, ∃ c, Mt.rdRu s r = .ok c
  | [], acc, cs, h, r, hr => absurd hr (by simp)
  | x :: t, acc, cs, h, r, hr => by
    unfold Mt.rdF at h
    cases hx : Mt.rdRu s x with
    | error e => rw [hx] at h; cases h
    | ok c =>
      rw [hx] at h
      rcases List.mem_cons.1 hr with rfl | hr
      · exact ⟨c, hx⟩
      · exact Mt.rdF_all t _ _ h r hr
theorem Mt.new_all {s : Mt.Sc} {admin : List (List Mt.Av)} {rs cs : List Mt.Ru} (h : Mt.newA s admin rs = .ok cs) : ∀ r ∈ rs, ∃ c, Mt.rdRu s r = .ok c := by
  unfold Mt.newA at h
  cases hk : Mt.keyD admin with
  | error e => rw [hk] at h; cases h
  | ok k => rw [hk] at h; exact Mt.rdF_all rs _ cs h
theorem Mt.new_sound {s : Mt.Sc} {admin : List (List Mt.Av)} {rs cs : List Mt.Ru} (h : Mt.newA s admin rs = .ok cs) (hf : ∀ r ∈ rs, Mt.FitRu r) : Mt.SoundR rs := fun r hr => by
  obtain ⟨c, hc⟩ := Mt.new_all h r hr
  exact ⟨(Mt.rd_ok hc).2.2.2.1, hf r hr⟩
theorem IsCa.below {w u : World} {v1 v2 v3 v4 : Value} {c : Mt.Ca} (h : IsCa w v1 v2 v3 v4 c) (hu : Below w.heap.size w u) : IsCa u v1 v2 v3 v4 c := ⟨h.admin.below hu, h.who.below hu, h.entry.below hu, h.rules.below hu, h.fadmin, h.fwho, h.fentry, h.rlen, h.rfit, h.alen⟩
theorem Mt.fitD_T {d : List (List Mt.Av)} (h : Mt.FitD d) : Mt.FitT d := fun r hr a ha => ((h.2 r hr).2 a ha).1
/-- What New answers, in one form. -/
theorem NewP.two {w w' : World} {R : Except Nat (List Mt.Ru)} {e : Ending} (h : NewP w R e w') : (∃ x, R = .error x ∧ e = .returned (.tuple #[.pointer none, .int .i64 x])) ∨ (∃ cs p, R = .ok cs ∧ e = .returned (.tuple #[.pointer (some ⟨p, 0, none⟩), .int .i64 0]) ∧ IsBk w' (.pointer (some ⟨p, 0, none⟩)) cs) := by
  unfold NewP at h
  cases R with
  | error x => exact .inl ⟨x, rfl, h⟩
  | ok cs =>
    obtain ⟨bv, h1, hb⟩ := h
    obtain ⟨p, cv, h2, h3⟩ := id hb
    subst h2
    exact .inr ⟨cs, p, rfl, h1, hb⟩
end Go.Proofs.YtngdbhncafnliaaGreat

/-
  Rules that stand behind others, or ahead of them; a part of rules in memory.
-/
namespace Go.Proofs.YtngdbhncafnliaaGreat
open Go.RowKit
set_option linter.unusedVariables false

theorem IsRus.take {w : World} {a : Option Addr} {n cap : Nat} {l : List Mt.Ru} (h : IsRus w (.slice a n cap) l) {k : Nat} (hk : k ≤ l.length) : IsRus w (.slice a k cap) (l.take k) := by
  obtain ⟨a', cap', e, hc, h⟩ := h
  cases e
  refine ⟨a, cap, by rw [List.length_take, Nat.min_eq_left hk], by rw [List.length_take]; omega, Lib.hid fun j hj => ?_⟩
  have hj' : j < l.length := by rw [List.length_take] at hj; omega
  rw [List.getElem_take]
  exact h.out j hj'
theorem cutat22 (s : Nat) (x : Int) (hs : s ≤ 4611686018427387904) : ∃ K : Nat, K ≤ s ∧ wrap64 ((IntKind.u64.wrap x).tmod ((s : Int) + 1)) = (K : Int) := by
  have w0 : 0 ≤ IntKind.u64.wrap x := by rw [IntKind.wrap_u64]; omega
  obtain ⟨u, hu⟩ := Int.eq_ofNat_of_zero_le w0
  rw [hu]
  have hlt : u % (s + 1) < s + 1 := Nat.mod_lt _ (by omega)
  refine ⟨u % (s + 1), by omega, ?_⟩
  have e : (u : Int).tmod ((s : Int) + 1) = ((u % (s + 1) : Nat) : Int) := by
    rw [show ((s : Int) + 1) = ((s + 1 : Nat) : Int) by omega]
    exact (Int.ofNat_tmod _ _).symm
  rw [e]
  simp only [wrap64]
  omega
namespace Mt
/-- Who denies all. -/
def denyR : Ru := ⟨0, [], [], [], 15, false⟩
theorem fit_deny : FitRu denyR := by unfold FitRu denyR; simp
theorem rd_deny : ∃ c, rdRu core denyR = .ok c := ⟨⟨0, [], [], [], 15, false⟩, by rfl⟩
theorem rdF_of {s : Sc} : ∀ (rs acc : List Ru), (∀ r ∈ rs, ∃ c, rdRu s r = .ok c) → ∃ cs, rdF s acc rs = .ok cs
  | [], acc, _ => ⟨acc, rfl⟩
  | r :: t, acc, h => by
    obtain ⟨c, hc⟩ := h r (List.mem_cons_self ..)
    obtain ⟨cs, hcs⟩ := rdF_of t (acc ++ [c]) (fun x hx => h x (List.mem_cons_of_mem _ hx))
    exact ⟨cs, by unfold rdF; rw [hc]; exact hcs⟩
theorem new_of {s : Sc} {admin : List (List Av)} {rs cs : List Ru} (h : newA s admin rs = .ok cs) (rs' : List Ru) (h' : ∀ r ∈ rs', ∃ c, rdRu s r = .ok c) : ∃ cs', newA s admin rs' = .ok cs' := by
  unfold newA at h ⊢
  cases hk : keyD admin with
  | error e => rw [hk] at h; cases h
  | ok k => exact rdF_of rs' _ h'
theorem dn_nil : dnOf [] = [] := by
  have h : dnL [] = .ok [] := by rfl
  unfold dnOf; rw [h]
theorem speaks_deny {who entry : List (List Av)} {right : Int} (hg : goodA who entry right = true) (a : List UInt8) : speaksA denyR who entry a right = true := by
  unfold goodA at hg
  simp only [Bool.and_eq_true] at hg
  obtain ⟨⟨hr, -⟩, he⟩ := hg
  have hu : underD entry [] = true := by
    rw [under_key he okP_nil, decide_eq_true_eq, keys_ok he, List.mem_map]
    exact ⟨entry.length, by simp, by rw [List.drop_length]⟩
  have hb : decide (Int.tmod (Int.tdiv 15 right) 2 = 1) = true := by
    unfold rightB at hr
    rw [decide_eq_true_eq] at hr
    rcases hr with rfl | rfl | rfl | rfl <;> decide
  unfold speaksA denyR
  simp only [dn_nil, hu]
  simp
  simpa using hb
theorem find_deny {who entry : List (List Av)} {right : Int} (hg : goodA who entry right = true) (a : List UInt8) (rs : List Ru) : findA (denyR :: rs) who entry a right = false := by
  unfold findA
  rw [List.find?_cons, speaks_deny hg a]; rfl
theorem find_behind {who entry : List (List Av)} {right : Int} (hg : goodA who entry right = true) (a : List UInt8) (rs : List Ru) : findA (rs ++ [denyR]) who entry a right = findA rs who entry a right := by
  unfold findA
  rw [List.find?_append]
  cases h : rs.find? (fun r => speaksA r who entry a right) with
  | some r => rfl
  | none =>
    rw [Option.none_or, List.find?_cons, speaks_deny hg a]; rfl
theorem find_more {who entry : List (List Av)} {right : Int} (a : List UInt8) (l m : List Ru) (h : findA l who entry a right = true) : findA (l ++ m) who entry a right = true := by
  unfold findA at h ⊢
  rw [List.find?_append]
  cases hf : l.find? (fun r => speaksA r who entry a right) with
  | some r => rw [hf] at h; exact h
  | none => rw [hf] at h; cases h
theorem may_deny (admin : List (List Av)) (rs : List Ru) (who entry : List (List Av)) (a : List UInt8) (right : Int) : rmayA admin (denyR :: rs) who entry a right = rmayA admin [] who entry a right := by
  unfold rmayA
  by_cases hg : goodA who entry right = true
  · rw [if_pos hg, if_pos hg, find_deny hg]; rfl
  · rw [if_neg hg, if_neg hg]
theorem may_behind (admin : List (List Av)) (rs : List Ru) (who entry : List (List Av)) (a : List UInt8) (right : Int) : rmayA admin (rs ++ [denyR]) who entry a right = rmayA admin rs who entry a right := by
  unfold rmayA
  by_cases hg : goodA who entry right = true
  · rw [if_pos hg, if_pos hg, find_behind hg]
  · rw [if_neg hg, if_neg hg]
theorem may_more (admin : List (List Av)) (rs : List Ru) (k : Nat) (who entry : List (List Av)) (a : List UInt8) (right : Int) (h : rmayA admin (rs.take k) who entry a right = true) : rmayA admin rs who entry a right = true := by
  unfold rmayA at h ⊢
  by_cases hg : goodA who entry right = true
  · rw [if_pos hg] at h ⊢
    by_cases hs : who ≠ [] ∧ sameA who admin = true
    · rw [if_pos hs]
    · rw [if_neg hs] at h ⊢
      have := find_more a (rs.take k) (rs.drop k) h
      rwa [List.take_append_drop] at this
  · rw [if_neg hg] at h; cases h
end Mt
end Go.Proofs.YtngdbhncafnliaaGreat
