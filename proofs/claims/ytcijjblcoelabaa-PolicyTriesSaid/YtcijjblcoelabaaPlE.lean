/-
  Two states that are the same; where a time belongs.
-/
import Derived.Test.YtcijjblcoelabaaPlD
set_option linter.unusedVariables false
set_option linter.unusedSimpArgs false
namespace Go.Proofs.Ytcijjblcoelabaa
open Go.RowKit Go.Shelf

set_option maxRecDepth 100000 in
set_option maxHeartbeats 1000000 in
theorem same23_any {w : World} {v1 v2 : Value} {l : List Int} (lk ch : Int) (h1 : IsTm w v1 l) (h2 : IsTm w v2 l) (hn : l.length ≤ 1125899906842624) :
    Calls Try.prog 18 #[stV v1 ⟨l, lk, ch⟩, stV v2 ⟨l, lk, ch⟩] w fun e w' => e = .returned (.bool true) ∧ Below w.heap.size w w' := by
  obtain ⟨a1, c1, rfl, hc1, HX⟩ := h1
  obtain ⟨a2, c2, rfl, hc2, HY⟩ := h2
  unfold stV
  simp only
  obtain ⟨n, hN⟩ : ∃ n, l.length = n := ⟨_, rfl⟩
  have HN := Lib.hid hN
  rw [hN] at hc1 hc2 hn ⊢
  obtain ⟨w1, hw1⟩ : ∃ u, w.alloc (.cells #[.slice a1 n c1, .int .i64 lk, .int .i64 ch] 34) = u := ⟨_, rfl⟩
  have hA : Below w.heap.size w w1 := by rw [← hw1]; exact (Below.refl _ w).alloc (Nat.le_refl _) _
  have hx : w1.heap[w.heap.size]? = some (.cells #[.slice a1 n c1, .int .i64 lk, .int .i64 ch] 34) := by rw [← hw1]; exact heap_alloc_new w _
  obtain ⟨w2, hw2⟩ : ∃ u, w1.alloc (.cells #[.slice a2 n c2, .int .i64 lk, .int .i64 ch] 34) = u := ⟨_, rfl⟩
  have hA2 : Below w1.heap.size w1 w2 := by rw [← hw2]; exact (Below.refl _ w1).alloc (Nat.le_refl _) _
  have hx2 : w2.heap[w1.heap.size]? = some (.cells #[.slice a2 n c2, .int .i64 lk, .int .i64 ch] 34) := by rw [← hw2]; exact heap_alloc_new w1 _
  have hx3 : w2.heap[w.heap.size]? = some (.cells #[.slice a1 n c1, .int .i64 lk, .int .i64 ch] 34) := (hA2.block _ (lt_of_block hx)).trans hx
  have HA := Lib.hid (hA.trans (hA2.mono hA.size))
  have HQ : Hid (∀ u, Below w2.heap.size w2 u → u.cell? ⟨w.heap.size, 0, none⟩ = some (.slice a1 n c1) ∧ u.cell? ⟨w1.heap.size, 0, none⟩ = some (.slice a2 n c2)) := Lib.hid (fun u hu => ⟨(box3_of ((hu.block _ (lt_of_block hx3)).trans hx3)).1, (box3_of ((hu.block _ (lt_of_block hx2)).trans hx2)).1⟩)
  obtain ⟨q0, q1, q2⟩ := box3_of hx3
  obtain ⟨p0, p1, p2⟩ := box3_of hx2
  have d0 : ((n : Int) != (n : Int)) = false := by simp
  have d1 : (lk != lk) = false := by simp
  have d2 : (ch != ch) = false := by simp
  clear hN hA hA2 hx hx2 hx3
  go_enter Try.func18, Try.ntmps18
  go_wp2_with fail
  clear d0 d1 d2 q1 q2 p1 p2
  go_loopw [30] (fun iv wr => ∃ i : Nat, i ≤ n ∧ iv = .int .i64 (i : Int) ∧ Hid (Below w2.heap.size w2 wr)) (fun iv _ => n - (intOf iv).toNat)
  case atStart => exact ⟨0, Nat.zero_le _, rfl, Lib.hid (Below.refl _ _)⟩
  case round =>
    obtain ⟨i, hi, rfl, HB⟩ := hrel
    by_cases hlt : i < n
    · have e1 : decide ((i : Int) < (n : Int)) = true := decide_eq_true (by omega)
      have e2 : decide (i < n) = true := decide_eq_true hlt
      have i0 : (0 : Int) ≤ (i : Int) := by omega
      have i1 : (i : Int) < (n : Int) := by omega
      have hil : i < l.length := by rw [HN.out]; exact hlt
      obtain ⟨b1, o1, e3, hb1, hx0⟩ := HX.out i hil
      obtain ⟨b2, o2, e4, hb2, hy0⟩ := HY.out i hil
      subst e3 e4
      have HBB := HA.out.trans (HB.out.mono HA.out.size)
      have x0 := (HBB.cell (p := ⟨b1, o1 + i, none⟩) hb1).trans hx0
      have y0 := (HBB.cell (p := ⟨b2, o2 + i, none⟩) hb2).trans hy0
      generalize l[i] = x at *
      have e5 : (x != x) = false := by simp
      clear q0 p0 hx0 hy0 hb1 hb2 hil HBB
      obtain ⟨q0, p0⟩ := HQ.out wr HB.out
      go_upto_region 6 with fail
      go_quiet (fail)
      go_wp2_with fail
      go_roundw
      case rel => exact ⟨i + 1, by omega, by go_num, Lib.hid (Below.drewP HB.out nq)⟩
      case measure => simp [intOf]; omega
    · obtain rfl : i = n := by omega
      have e1 : decide ((i : Int) < (i : Int)) = false := decide_eq_false (by omega)
      have e2 : decide (i < i) = false := decide_eq_false (by omega)
      go_wp2_with fail
      all_goals (go_ret; exact ⟨rfl, HA.out.trans (HB.out.mono HA.out.size)⟩)
set_option maxRecDepth 100000 in
set_option maxHeartbeats 1000000 in
theorem binSearch23_any {w : World} {v : Value} {l : List Int} (t : Int) (h1 : IsTm w v l) (hn : l.length ≤ 1125899906842624) (hr : l.Pairwise (· ≤ ·)) :
    Calls Try.prog 62 #[v, .int .i64 t] w fun e w' => ∃ b, e = .returned (.tuple #[.int .i64 ((Mt.aheadL l t).length : Nat), .bool b]) ∧ Below w.heap.size w w' := by
  have HLess := Lib.hid (fun (a b : Int) (u : World) => less23_any a b u)
  have HNan := Lib.hid (fun (a : Int) (u : World) => nan23b_any a u)
  have HR := Lib.hid hr
  obtain ⟨a, cap, rfl, hcap, hcell⟩ := h1
  obtain ⟨n, hN⟩ : ∃ n, l.length = n := ⟨_, rfl⟩
  have HN := Lib.hid hN
  obtain ⟨K, hK⟩ : ∃ K, (Mt.aheadL l t).length = K := ⟨_, rfl⟩
  have HK := Lib.hid hK
  rw [hN] at hn ⊢
  rw [hK]
  clear hN hK hr hcap
  go_enter Try.func62, Try.ntmps62
  go_wp2_with fail
  go_loopw [7, 8] (fun iv jv wr => ∃ i j : Nat, i ≤ j ∧ j ≤ n ∧ iv = .int .i64 (i : Int) ∧ jv = .int .i64 (j : Int) ∧ Hid (∀ k (hk : k < l.length), k < i → l[k] < t) ∧ Hid (∀ k (hk : k < l.length), j ≤ k → t ≤ l[k]) ∧ Hid (Below w.heap.size w wr)) (fun iv jv _ => (intOf jv).toNat - (intOf iv).toNat)
  case atStart => exact ⟨0, n, Nat.zero_le _, Nat.le_refl _, rfl, rfl, Lib.hid fun k _ h => absurd h (Nat.not_lt_zero _), Lib.hid fun k hk h => by have := HN.out; omega, Lib.hid (Below.refl _ _)⟩
  case round =>
    obtain ⟨i, j, hij, hjn, rfl, rfl, HI, HJ, HB⟩ := hrel
    by_cases hlt : i < j
    · have e1 : decide ((i : Int) < (j : Int)) = true := decide_eq_true (by omega)
      have e2 : decide (i < j) = true := decide_eq_true hlt
      have w0 : wrap64 ((i : Int) + (j : Int)) = (i : Int) + (j : Int) := by unfold wrap64; omega
      obtain ⟨m, hm⟩ : ∃ m : Nat, ((i : Int) + (j : Int)) / 2 = (m : Int) := ⟨(i + j) / 2, by omega⟩
      have hmi : i ≤ m := by omega
      have hmj : m < j := by omega
      have hml : m < l.length := by rw [HN.out]; omega
      obtain ⟨b, off, rfl, hb1, hc1⟩ := hcell.out m hml
      have x0 := (HB.out.cell (p := ⟨b, off + m, none⟩) hb1).trans hc1
      obtain ⟨x, hx⟩ : ∃ x, l[m] = x := ⟨_, rfl⟩
      rw [hx] at x0
      have HX : Hid (∀ h : m < l.length, l[m] = x) := Lib.hid fun _ => hx
      obtain ⟨z, hz⟩ : ∃ z, decide (x < t) = z := ⟨_, rfl⟩
      have HZ := Lib.hid hz
      have HLs : Hid (Calls Try.prog 58 #[.int .i64 x, .int .i64 t] wr fun e w' => e = .returned (.bool z) ∧ w' = wr) := Lib.hid (by rw [← hz]; exact HLess.out x t wr)
      have m0 : (0 : Int) ≤ (m : Int) := by omega
      have m1 : m < n := by omega
      have m2 : (m : Int) < (n : Int) := by omega
      clear hc1 hb1 hx hz hml
      go_wp2_with fail
      refine (HLs.out).mono ?_
      rintro e w2 ⟨rfl, rfl⟩
      clear x0
      cases z
      · go_wp2_with fail
        go_roundw
        case rel =>
          refine ⟨i, m, hmi, by omega, rfl, rfl, HI, Lib.hid fun k hk hk2 => ?_, HB⟩
          have h1 := HX.out (by omega)
          have h2 := of_decide_eq_false HZ.out
          by_cases e : k = m
          · subst e; omega
          · have := (List.pairwise_iff_getElem.1 HR.out) m k (by omega) hk (by omega)
            omega
        case measure => simp [intOf]; omega
      · have w3 : wrap64 ((m : Int) + 1) = ((m + 1 : Nat) : Int) := by unfold wrap64; omega
        go_wp2_with fail
        go_roundw
        case rel =>
          refine ⟨m + 1, j, by omega, hjn, by first | rfl | go_num, rfl, Lib.hid fun k hk hk2 => ?_, HJ, HB⟩
          have hml : m < l.length := by have := HN.out; omega
          have h1 := HX.out hml
          have h2 := of_decide_eq_true HZ.out
          by_cases e : k = m
          · subst e; omega
          · have := (List.pairwise_iff_getElem.1 HR.out) k m hk hml (by omega)
            omega
        case measure => simp [intOf]; omega
    · obtain rfl : i = j := by omega
      have hKi : i = K := by rw [← HK.out]; exact Mt.rise_at HR.out t (by rw [HN.out]; omega) (fun k hk h => HI.out k hk h) (fun k hk h => HJ.out k hk h)
      subst hKi
      have e1 : decide ((i : Int) < (i : Int)) = false := decide_eq_false (by omega)
      have e2 : decide (i < i) = false := decide_eq_false (by omega)
      by_cases hin : i < n
      · have f1 : decide ((i : Int) < (n : Int)) = true := decide_eq_true (by omega)
        have f2 : decide (i < n) = true := decide_eq_true hin
        have i0 : (0 : Int) ≤ (i : Int) := by omega
        have i1 : (i : Int) < (n : Int) := by omega
        have hil : i < l.length := by rw [HN.out]; exact hin
        obtain ⟨b, off, rfl, hb1, hc1⟩ := hcell.out i hil
        have x0 := (HB.out.cell (p := ⟨b, off + i, none⟩) hb1).trans hc1
        obtain ⟨x, hx⟩ : ∃ x, l[i] = x := ⟨_, rfl⟩
        rw [hx] at x0
        have HNx := Lib.hid (HNan.out x wr)
        obtain ⟨z, hz⟩ : ∃ z, (x == t) = z := ⟨_, rfl⟩
        clear hc1 hb1 hx hil
        cases z
        · go_wp2_with fail
          refine (HNx.out).mono ?_
          rintro e w2 ⟨rfl, rfl⟩
          go_wp2_with fail
          all_goals (go_returns; exact ⟨_, rfl, HB.out⟩)
        · go_wp2_with fail
          all_goals (go_returns; exact ⟨_, rfl, HB.out⟩)
      · have f1 : decide ((i : Int) < (n : Int)) = false := decide_eq_false (by omega)
        have f2 : decide (i < n) = false := decide_eq_false hin
        go_wp2_with fail
        all_goals (go_returns; exact ⟨_, rfl, HB.out⟩)
end Go.Proofs.Ytcijjblcoelabaa
