/-
  Whether it is a state: the program's answer, the document's; two states that are the same.
-/
import Derived.Test.YtcijjblcoelabaaPlB
import Derived.Shelf.Abstract
import Derived.Deep.CutRange
set_option linter.unusedVariables false
set_option linter.unusedSimpArgs false
namespace Go.Proofs.Ytcijjblcoelabaa
open Go.RowKit Go.Shelf

theorem any_strange (l : List Int) : l.all Mt.isT = !(l.any fun t => !Mt.isT t) := by
  induction l with
  | nil => rfl
  | cons a l ih => simp only [List.all_cons, List.any_cons, ih]; cases Mt.isT a <;> simp
theorem eg_rightF : ∀ args w, (callFunc 36 args).run Try.prog w = .ok (.enter 36 args) w := enters_of Try.func36 (by kernel_rfl) rfl
set_option maxRecDepth 100000 in
set_option maxHeartbeats 1000000 in
theorem right23_any {w : World} {v : Value} {s : Mt.Ps} (hv : IsTm w v s.fails) (hn : s.fails.length ≤ 1125899906842624) : Calls Try.prog 13 #[stV v s] w fun e w' => e = .returned (.bool (Mt.rightB s)) ∧ Below w.heap.size w w' := by
  have HT := Lib.hid (fun (n : Int) (u : World) => isTime_any n u)
  obtain ⟨l, lk, ch⟩ := s
  simp only at hv hn
  have HS := Lib.hid (fun (u : World) (hb : Below w.heap.size w u) => isSorted_any (hv.below hb) hn)
  have HF := Lib.hid (fun (u : World) (hb : Below w.heap.size w u) => containsFunc23_any (hv.below hb) hn 36 #[] (fun t => !Mt.isT t) eg_rightF (fun u hu x _ => by
    rw [Array.append_empty]; exact (rightF_any x u).mono fun _ _ ⟨h1, h2⟩ => ⟨h1, by rw [h2]; exact Below.refl _ _⟩))
  obtain ⟨a, cap, rfl, hcap, -⟩ := hv
  unfold Mt.rightB stV
  simp only [any_strange]
  obtain ⟨n, hN⟩ : ∃ n, l.length = n := ⟨_, rfl⟩
  rw [hN] at HS HF hcap ⊢
  have HC := Lib.hid (HT.out ch)
  have HK := Lib.hid (HT.out lk)
  generalize Mt.isT ch = zc at *
  generalize Mt.isT lk = zk at *
  generalize Mt.riseB l = zs at *
  generalize (l.any fun t => !Mt.isT t) = za at *
  obtain ⟨zl, hzl⟩ : ∃ z, decide (lk = -1) = z := ⟨_, rfl⟩
  rw [hzl]
  have HZL := Lib.hid hzl
  clear hN hn HT hzl
  obtain ⟨w1, hw1⟩ : ∃ u, w.alloc (.cells #[.slice a n cap, .int .i64 lk, .int .i64 ch] 26) = u := ⟨_, rfl⟩
  have hA : Below w.heap.size w w1 := by rw [← hw1]; exact (Below.refl _ w).alloc (Nat.le_refl _) _
  have hx : w1.heap[w.heap.size]? = some (.cells #[.slice a n cap, .int .i64 lk, .int .i64 ch] 26) := by rw [← hw1]; exact heap_alloc_new w _
  have HQ : Hid (∀ u, Below w1.heap.size w1 u → Below w.heap.size w u ∧ u.cell? ⟨w.heap.size, 0, none⟩ = some (.slice a n cap) ∧ u.cell? ⟨w.heap.size, 1, none⟩ = some (.int .i64 lk) ∧ u.cell? ⟨w.heap.size, 2, none⟩ = some (.int .i64 ch)) := Lib.hid (fun u hu => ⟨hA.trans (hu.mono hA.size), box3_of ((hu.block _ (lt_of_block hx)).trans hx)⟩)
  obtain ⟨HB1, q0, q1, q2⟩ := HQ.out w1 (Below.refl _ _)
  have HB1 := Lib.hid HB1
  have HR1 := Lib.hid (Below.refl w1.heap.size w1)
  clear hA hx
  by_cases hlen : n ≤ 100
  · have d1 : decide ((100 : Int) < (n : Int)) = false := decide_eq_false (by omega)
    have d2 : decide (100 < n) = false := decide_eq_false (by omega)
    rw [decide_eq_true hlen]
    have HSw := Lib.hid (HS.out w1 HB1.out)
    go_enter Try.func13, Try.ntmps13
    go_wp2_with fail
    refine (HSw.out).mono ?_
    rintro e w2 ⟨rfl, hb⟩
    have HR2 := Lib.hid (HR1.out.trans (hb.mono HR1.out.size))
    clear hb q0 q1 q2
    obtain ⟨HB2, q0, q1, q2⟩ := HQ.out w2 HR2.out
    have HB2 := Lib.hid HB2
    cases zs
    · go_wp2_with fail
      all_goals (go_ret; exact ⟨by simp, HB2.out⟩)
    go_wp2_with fail
    refine (HC.out _).mono ?_
    rintro e w3 ⟨rfl, rfl⟩
    cases zc
    · go_wp2_with fail
      all_goals (go_ret; exact ⟨by simp, HB2.out⟩)
    have HFw := Lib.hid (HF.out w3 HB2.out)
    go_wp2_with fail
    refine (HFw.out).mono ?_
    rintro e w4 ⟨rfl, hb⟩
    have HR4 := Lib.hid (HR2.out.trans (hb.mono HR2.out.size))
    clear hb q0 q1 q2
    obtain ⟨HB4, q0, q1, q2⟩ := HQ.out w4 HR4.out
    have HB4 := Lib.hid HB4
    cases za
    · by_cases hk : lk = -1
      · have k0 : zl = true := by rw [← HZL.out]; exact decide_eq_true hk
        subst k0
        subst hk
        go_wp2_with fail
        all_goals (go_ret; exact ⟨by simp, HB4.out⟩)
      · have k1 : (lk == -1) = false := by simpa using hk
        have k2 : (lk != -1) = true := by simpa using hk
        have k3 : zl = false := by rw [← HZL.out]; exact decide_eq_false hk
        subst k3
        go_wp2_with fail
        refine (HK.out _).mono ?_
        rintro e w5 ⟨rfl, rfl⟩
        go_wp2_with fail
        all_goals (go_ret; exact ⟨by simp, HB4.out⟩)
    · go_wp2_with fail
      all_goals (go_ret; exact ⟨by simp, HB4.out⟩)
  · have d1 : decide ((100 : Int) < (n : Int)) = true := decide_eq_true (by omega)
    have d2 : decide (100 < n) = true := decide_eq_true (by omega)
    rw [decide_eq_false hlen]
    go_enter Try.func13, Try.ntmps13
    go_wp2_with fail
    all_goals (go_ret; exact ⟨by simp, HB1.out⟩)
set_option maxRecDepth 100000 in
set_option maxHeartbeats 2000000 in
theorem rright23_any {w : World} {v : Value} {s : Mt.Ps} (hv : IsTm w v s.fails) (hn : s.fails.length ≤ 1125899906842624) : Calls Try.prog 14 #[stV v s] w fun e w' => e = .returned (.bool (Mt.rightB s)) ∧ Below w.heap.size w w' := by
  have HT := Lib.hid (fun (n : Int) (u : World) => time23_any n u)
  rw [Mt.rightB_good]
  obtain ⟨l, lk, ch⟩ := s
  simp only at hv hn ⊢
  obtain ⟨a, cap, rfl, hcap, hcell⟩ := hv
  unfold stV
  simp only
  obtain ⟨n, hN⟩ : ∃ n, l.length = n := ⟨_, rfl⟩
  have HN := Lib.hid hN
  rw [hN] at hcap hn ⊢
  have HC := Lib.hid (HT.out ch)
  have HK := Lib.hid (HT.out lk)
  generalize Mt.isT ch = zc at *
  generalize Mt.isT lk = zk at *
  obtain ⟨zl, hzl⟩ : ∃ z, decide (lk = -1) = z := ⟨_, rfl⟩
  obtain ⟨zn, hzn⟩ : ∃ z, decide (n ≤ 100) = z := ⟨_, rfl⟩
  obtain ⟨zo, hzo⟩ : ∃ z, (zn && zc && (zl || zk)) = z := ⟨_, rfl⟩
  have HZO := Lib.hid hzo
  obtain ⟨R, hR⟩ : ∃ R, (zo && Mt.goodTo l n) = R := ⟨_, rfl⟩
  have HR := Lib.hid hR
  rw [hzl, hzn, hzo, hR]
  have k1 : (lk == -1) = zl := by rw [← hzl]; rfl
  have k2 : decide ((n : Int) ≤ 100) = zn := by rw [← hzn]; exact decide_eq_decide.2 (by omega)
  clear hN hzl hzo hR hcap
  obtain ⟨w1, hw1⟩ : ∃ u, w.alloc (.cells #[.slice a n cap, .int .i64 lk, .int .i64 ch] 34) = u := ⟨_, rfl⟩
  have hA : Below w.heap.size w w1 := by rw [← hw1]; exact (Below.refl _ w).alloc (Nat.le_refl _) _
  have hx : w1.heap[w.heap.size]? = some (.cells #[.slice a n cap, .int .i64 lk, .int .i64 ch] 34) := by rw [← hw1]; exact heap_alloc_new w _
  have HQ : Hid (∀ u, Below w1.heap.size w1 u → u.cell? ⟨w.heap.size, 0, none⟩ = some (.slice a n cap) ∧ u.cell? ⟨w.heap.size, 1, none⟩ = some (.int .i64 lk) ∧ u.cell? ⟨w.heap.size, 2, none⟩ = some (.int .i64 ch)) := Lib.hid (fun u hu => box3_of ((hu.block _ (lt_of_block hx)).trans hx))
  obtain ⟨q0, q1, q2⟩ := HQ.out w1 (Below.refl _ _)
  have HA := Lib.hid hA
  clear hA hx
  go_enter Try.func14, Try.ntmps14
  go_upto_region 1 with fail
  go_cut [3] from 5 to 23 (fun t3 wx => t3 = .bool zo ∧ wx = w1)
  case first =>
    cases zn
    · go_wp2_with fail
      all_goals (go_meet; exact ⟨by rw [← HZO.out]; simp, rfl⟩)
    cases zc
    · go_wp2_with fail
      refine (HC.out _).mono ?_
      rintro e w' ⟨rfl, rfl⟩
      go_wp2_with fail
      all_goals (go_meet; exact ⟨by rw [← HZO.out]; simp, rfl⟩)
    cases zl
    · go_wp2_with fail
      refine (HC.out _).mono ?_
      rintro e w' ⟨rfl, rfl⟩
      go_wp2_with fail
      refine (HK.out _).mono ?_
      rintro e w' ⟨rfl, rfl⟩
      go_wp2_with fail
      all_goals (go_meet; exact ⟨by rw [← HZO.out]; simp, rfl⟩)
    · go_wp2_with fail
      refine (HC.out _).mono ?_
      rintro e w' ⟨rfl, rfl⟩
      go_wp2_with fail
      all_goals (go_meet; exact ⟨by rw [← HZO.out]; simp, rfl⟩)
  case rest =>
    obtain ⟨rfl, hcw⟩ := hcut
    obtain rfl := hcw.symm
    clear k1 k2
    go_wp2_with fail
    go_loopw [3, 4] (fun ov iv wr => ∃ i : Nat, ∃ b : Bool, i ≤ n ∧ iv = .int .i64 (i : Int) ∧ ov = .bool b ∧ Hid (b = (zo && Mt.goodTo l i)) ∧ Hid (Below w1.heap.size w1 wr)) (fun _ iv _ => n - (intOf iv).toNat)
    case atStart => exact ⟨0, zo, Nat.zero_le _, rfl, rfl, Lib.hid (by rw [Mt.goodTo_zero, Bool.and_true]), Lib.hid (Below.refl _ _)⟩
    case round =>
      obtain ⟨i, b, hi, rfl, rfl, HG, HB⟩ := hrel
      clear q0 q1 q2
      obtain ⟨q0, q1, q2⟩ := HQ.out wr HB.out
      cases b
      · have hR2 : R = false := by
          rw [← HR.out]
          have := HG.out
          cases zo
          · rfl
          · rw [Bool.true_and] at this ⊢
            rw [← HN.out]; exact Mt.goodTo_mono this.symm
        subst hR2
        go_wp2_with fail
        all_goals (go_ret; exact ⟨rfl, HA.out.trans (HB.out.mono HA.out.size)⟩)
      by_cases hlt : i < n
      · have HG2 : Hid (zo = true ∧ Mt.goodTo l i = true) := Lib.hid (by have := HG.out; simpa using this.symm)
        have hil : i < l.length := by rw [HN.out]; exact hlt
        obtain ⟨bb, off, rfl, hb1, hc1⟩ := hcell.out i hil
        obtain ⟨x, hx⟩ : ∃ x, l[i] = x := ⟨_, rfl⟩
        have hb2 : bb < w1.heap.size := Nat.lt_of_lt_of_le hb1 HA.out.size
        have c1 := (HB.out.cell (p := ⟨bb, off + i, none⟩) hb2).trans ((HA.out.cell (p := ⟨bb, off + i, none⟩) hb1).trans hc1)
        rw [hx] at c1
        have HS := Lib.hid (Mt.goodTo_step hil)
        rw [hx] at HS
        have HTx := Lib.hid (HT.out x)
        obtain ⟨zi, hzi⟩ : ∃ z, Mt.isT x = z := ⟨_, rfl⟩
        rw [hzi] at HTx HS
        have d1 : decide ((i : Int) < (n : Int)) = true := decide_eq_true (by omega)
        have d2 : decide (i < n) = true := decide_eq_true hlt
        have i0 : (0 : Int) ≤ (i : Int) := by omega
        have i1 : (i : Int) < (n : Int) := by omega
        have w3 : wrap64 ((i : Int) + 1) = ((i + 1 : Nat) : Int) := by unfold wrap64; omega
        rcases Nat.eq_zero_or_pos i with hz | hpos
        · subst hz
          have c1' : wr.cell? ⟨bb, off, none⟩ = some (.int .i64 x) := by simpa using c1
          have n0 : 0 < n := hlt
          have n1 : (0 : Int) < (n : Int) := by omega
          clear hc1 hb1 hx hzi hil c1
          cases zi
          all_goals
            go_upto_region 5 with fail
            go_quiet ((go_at_call 34; exact Calls.quiet_of_same (HTx.out _)))
            go_wp2_with fail
            go_roundw
            case rel => exact ⟨1, _, by omega, by first | rfl | go_num, rfl, Lib.hid (by rw [HS.out]; have h1 := HG2.out.1; have h2 := HG2.out.2; rw [h1, h2]; simp), Lib.hid (Below.drewP HB.out nq)⟩
            case measure => simp [intOf]; omega
        · obtain ⟨k, hk⟩ : ∃ k, i = k + 1 := ⟨i - 1, by omega⟩
          have hkl : k < l.length := by omega
          obtain ⟨b2, off2, e2, hb3, hc2⟩ := hcell.out k hkl
          obtain ⟨rfl, rfl⟩ : b2 = bb ∧ off2 = off := by simp at e2; exact ⟨e2.1.symm, e2.2.symm⟩
          obtain ⟨y, hy⟩ : ∃ y, l[k] = y := ⟨_, rfl⟩
          have c2 := (HB.out.cell (p := ⟨b2, off2 + k, none⟩) hb2).trans ((HA.out.cell (p := ⟨b2, off2 + k, none⟩) hb1).trans hc2)
          rw [hy] at c2
          have HY : Hid (l.getD (i - 1) 0 = y) := Lib.hid (by
            have : i - 1 = k := by omega
            rw [this, List.getD_eq_getElem?_getD, List.getElem?_eq_getElem hkl, ← hy]; rfl)
          have w1' : wrap64 ((i : Int) - 1) = (k : Int) := by unfold wrap64; omega
          have w2' : IntKind.i64.wrap ((i : Int) - 1) = (k : Int) := by rw [IntKind.wrap_i64]; omega
          have k0 : (0 : Int) ≤ (k : Int) := by omega
          have kN : k < n := by omega
          have kI : (k : Int) < (n : Int) := by omega
          have e0 : ((i : Int) == 0) = false := by simp; omega
          have e1 : (i == 0) = false := by simp; omega
          obtain ⟨zy, hzy⟩ : ∃ z, decide (y ≤ x) = z := ⟨_, rfl⟩
          have HZY := Lib.hid hzy
          have HP0 : Hid (decide (i = 0) = false) := Lib.hid (decide_eq_false (by omega))
          have hne : ¬ (i = 0) := by omega
          have hne2 : ¬ ((i : Int) = 0) := by omega
          clear hc1 hb1 hx hzi hil hc2 hb3 e2 hkl hy hk hb2 hpos
          go_upto_region 5 with fail
          cases zi
          · go_quiet ((go_at_call 34; exact Calls.quiet_of_same (HTx.out _)))
            go_wp2_with fail
            go_roundw
            case rel => exact ⟨i + 1, false, by omega, by first | rfl | go_num, by first | rfl | simp, Lib.hid (by rw [HS.out]; simp), Lib.hid (Below.drewP HB.out nq)⟩
            case measure => simp [intOf]; omega
          · go_quiet ((go_at_call 34; exact Calls.quiet_of_same (HTx.out _)))
            go_wp2_with fail
            go_roundw
            case rel => exact ⟨i + 1, zy, by omega, by first | rfl | go_num, by first | rfl | simp, Lib.hid (by rw [HS.out, HY.out, HZY.out, HP0.out, HG2.out.1, HG2.out.2]; simp), Lib.hid (Below.drewP HB.out nq)⟩
            case measure => simp [intOf]; omega
      · obtain rfl : i = n := by omega
        have d1 : decide ((i : Int) < (i : Int)) = false := decide_eq_false (by omega)
        have d2 : decide (i < i) = false := decide_eq_false (by omega)
        have hR2 : R = true := by rw [← HR.out]; exact HG.out.symm
        subst hR2
        go_wp2_with fail
        all_goals (go_ret; exact ⟨rfl, HA.out.trans (HB.out.mono HA.out.size)⟩)
end Go.Proofs.Ytcijjblcoelabaa
