/-
  The failures that still count, of a state.
-/
import Derived.Test.YtcijjblcoelabaaPlF
set_option linter.unusedVariables false
set_option linter.unusedSimpArgs false
namespace Go.Proofs.Ytcijjblcoelabaa
open Go.RowKit Go.Shelf

theorem eg_overF : ∀ args w, (callFunc 77 args).run Try.prog w = .ok (.enter 77 args) w := enters_of Try.func77 (by kernel_rfl) rfl
theorem overF_any (p : Mt.Po) (now x : Int) (hnow : Mt.isT now = true) (hx : Mt.isT x = true) (bp bn : Nat) (w : World) (h1 : w.cell? ⟨bp, 1, none⟩ = some (.int .i64 p.window)) (h2 : w.cell? ⟨bn, 0, none⟩ = some (.int .i64 now)) :
    Calls Try.prog 77 #[.int .i64 x, .pointer (some ⟨bp, 0, none⟩), .pointer (some ⟨bn, 0, none⟩)] w fun e w' => e = .returned (.bool (Mt.overB p now x)) ∧ w' = w := by
  obtain ⟨f, wi, lo, ag⟩ := p
  unfold Mt.overB
  simp only at h1 ⊢
  rw [Mt.isT_iff] at hnow hx
  have hwr : wrap64 (now - x) = now - x := by unfold wrap64; omega
  obtain ⟨z, hz⟩ : ∃ z, decide (0 < wi) = z := ⟨_, rfl⟩
  obtain ⟨y, hy⟩ : ∃ z, decide (wi ≤ now - x) = z := ⟨_, rfl⟩
  rw [hz, hy]
  cases z
  all_goals
    go_enter Try.func77, Try.ntmps77
    go_wp2_with fail
    all_goals (go_ret; exact ⟨by simp, rfl⟩)
set_option maxRecDepth 100000 in
set_option maxHeartbeats 1000000 in
theorem counting23_any {w : World} {v : Value} {s : Mt.Ps} (p : Mt.Po) (now : Int) (hnow : Mt.isT now = true) (hall : ∀ t ∈ s.fails, Mt.isT t = true) (hv : IsTm w v s.fails) (hn : s.fails.length ≤ 1000) :
    Calls Try.prog 61 #[stV v s, poV p, .int .i64 now] w fun e w' => ∃ a m c, e = .returned (.slice a m c) ∧ IsOwn 2 1 w.heap.size w' (.slice a m c) (Mt.countL p s now).length (tms (Mt.countL p s now)) ∧ Below w.heap.size w w' := by
  have HOV := Lib.hid (fun (x : Int) (hx : Mt.isT x = true) => overF_any p now x hnow hx)
  have HAL := Lib.hid hall
  obtain ⟨l, lk, ch⟩ := s
  obtain ⟨f, wi, lo, ag⟩ := p
  simp only at hv hn HAL
  have hcl := Mt.countL.eq_1 ⟨f, wi, lo, ag⟩ ⟨l, lk, ch⟩ now
  simp only at hcl
  have HV := Lib.hid hv
  obtain ⟨va, vc, rfl, -, -⟩ := hv
  obtain ⟨w1, hw1⟩ : ∃ u, w.alloc (.cells #[.slice va l.length vc, .int .i64 lk, .int .i64 ch] 26) = u := ⟨_, rfl⟩
  have hA : Below w.heap.size w w1 := by rw [← hw1]; exact (Below.refl _ w).alloc (Nat.le_refl _) _
  have hx1 : w1.heap[w.heap.size]? = some (.cells #[.slice va l.length vc, .int .i64 lk, .int .i64 ch] 26) := by rw [← hw1]; exact heap_alloc_new w _
  obtain ⟨w2, hw2⟩ : ∃ u, w1.alloc (.cells #[.int .i64 f, .int .i64 wi, .int .i64 lo, .int .i64 ag] 23) = u := ⟨_, rfl⟩
  have hA2 : Below w1.heap.size w1 w2 := by rw [← hw2]; exact (Below.refl _ w1).alloc (Nat.le_refl _) _
  have hx2 : w2.heap[w1.heap.size]? = some (.cells #[.int .i64 f, .int .i64 wi, .int .i64 lo, .int .i64 ag] 23) := by rw [← hw2]; exact heap_alloc_new w1 _
  obtain ⟨w3, hw3⟩ : ∃ u, w2.alloc (.cells #[.int .i64 now] 2) = u := ⟨_, rfl⟩
  have hA3 : Below w2.heap.size w2 w3 := by rw [← hw3]; exact (Below.refl _ w2).alloc (Nat.le_refl _) _
  have hx3 : w3.heap[w2.heap.size]? = some (.cells #[.int .i64 now] 2) := by rw [← hw3]; exact heap_alloc_new w2 _
  have g1 := (hA3.block _ (Nat.lt_of_lt_of_le (lt_of_block hx1) hA2.size)).trans ((hA2.block _ (lt_of_block hx1)).trans hx1)
  have g2 := (hA3.block _ (lt_of_block hx2)).trans hx2
  obtain ⟨q0, q1, q2⟩ := box3_of g1
  have hAA : Below w.heap.size w w3 := hA.trans ((hA2.mono hA.size).trans (hA3.mono (Nat.le_trans hA.size hA2.size)))
  have HB := Lib.hid hAA
  have HBX : Hid (w1.heap.size < w3.heap.size ∧ w2.heap.size < w3.heap.size ∧ w3.cell? ⟨w1.heap.size, 1, none⟩ = some (.int .i64 wi) ∧ w3.cell? ⟨w2.heap.size, 0, none⟩ = some (.int .i64 now)) := Lib.hid ⟨lt_of_block g2, lt_of_block hx3, (box4_of g2).2.1, by rw [cell_of_row _ _ _ _ _ _ hx3]; rfl⟩
  have HCL := Lib.hid (clone23_any (HV.out.below hAA) (by omega))
  obtain ⟨C, hC⟩ : ∃ C, Mt.countL ⟨f, wi, lo, ag⟩ ⟨l, lk, ch⟩ now = C := ⟨_, rfl⟩
  rw [hC] at hcl ⊢
  have HC := Lib.hid hcl
  have HLN : Hid (l.length ≤ 1000) := Lib.hid hn
  unfold stV poV
  simp only
  clear hA hA2 hA3 hx1 hx2 hx3 g1 g2 hAA hC hcl hn hall hnow HV
  by_cases hk : lk = -1
  · have hcc : C = l.filter (fun t => !Mt.overB ⟨f, wi, lo, ag⟩ now t) := by have := HC.out; rw [if_pos hk] at this; exact this
    subst hk
    subst hcc
    obtain ⟨n, hN⟩ : ∃ n, l.length = n := ⟨_, rfl⟩
    have HN := Lib.hid hN
    have HCL := Lib.hid HCL.out
    rw [hN] at hw1 q0 HCL ⊢
    clear hN
    go_enter Try.func61, Try.ntmps61
    go_wp2_with fail
    refine (HCL.out).mono ?_
    rintro e w4 ⟨a, m, c, rfl, how, hb⟩
    have HB4 := Lib.hid (HB.out.trans (hb.mono HB.out.size))
    have hs3 := HB.out.size
    obtain ⟨b1, b2, c1, c2⟩ := HBX.out
    obtain ⟨gg, hgg, hrw⟩ := how
    rw [← HN.out] at hrw
    have HD := Lib.hid (deleteFunc23_any hrw (by have := HLN.out; omega) 77 #[.pointer (some ⟨w1.heap.size, 0, none⟩), .pointer (some ⟨w2.heap.size, 0, none⟩)] (Mt.overB ⟨f, wi, lo, ag⟩ now) eg_overF (fun u hu x hx => by
      have e1 := (hu.cell (p := ⟨w1.heap.size, 1, none⟩) (Nat.lt_of_lt_of_le b1 hb.size) (by simp; omega)).trans ((hb.cell (p := ⟨w1.heap.size, 1, none⟩) b1).trans c1)
      have e2 := (hu.cell (p := ⟨w2.heap.size, 0, none⟩) (Nat.lt_of_lt_of_le b2 hb.size) (by simp; omega)).trans ((hb.cell (p := ⟨w2.heap.size, 0, none⟩) b2).trans c2)
      exact HOV.out x (HAL.out x hx) _ _ u e1 e2))
    have HGG : Hid (w3.heap.size ≤ gg) := Lib.hid hgg
    clear hb hrw hgg b1 b2 c1 c2 hs3 q0 q1 q2
    go_wp2_with fail
    refine (HD.out).mono ?_
    rintro e w5 ⟨a', m', c', rfl, hrw, ho⟩
    have HF1 := Lib.hid hrw
    have HF2 := Lib.hid ho
    clear hrw ho
    go_wp2_with fail
    have hs3 := HB.out.size
    have hgg := HGG.out
    all_goals (go_ret; exact ⟨_, _, _, rfl, ⟨gg, by omega, HF1.out⟩, HB4.out.trans (HF2.out.toBelow (fun k hk => by simp at hk; omega) HB4.out.size)⟩)
  · have hcc : C = [] := by have := HC.out; rw [if_neg hk] at this; exact this
    have k1 : (lk == -1) = false := by simpa using hk
    have k2 : (lk != -1) = true := by simpa using hk
    rw [hcc]
    clear hk
    go_enter Try.func61, Try.ntmps61
    go_wp2_with fail
    all_goals (go_ret; exact ⟨_, _, _, rfl, IsOwn.nil _ _ _ _, HB.out⟩)
end Go.Proofs.Ytcijjblcoelabaa
