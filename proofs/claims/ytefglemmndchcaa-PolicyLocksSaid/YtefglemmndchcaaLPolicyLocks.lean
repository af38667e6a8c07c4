/-
  PolicyLocks is proved: behind as many failures in a row as lock the right password and wrong ones are refused till the lock's time is over; then the right one is good, unless it is too old. No condition.
-/
import Derived.Test.YtefglemmndchcaaRows
import Derived.Test.YtefglemmndchcaaPlN
import Derived.Test.YtefglemmndchcaaPlO
import Derived.Test.YtefglemmndchcaaPlP
import Derived.ProofKit
import Derived.OpenShut
import Derived.SizedLaws
namespace Go.Proofs.Ytefglemmndchcaa.policyLocks
open Go.ChangeShapes Go.WideShapes Go.ChangeAt Go.RowKit Go.Shelf
set_option linter.unusedVariables false

/-- The box of a state: what it holds. -/
def Box (b : Nat) (u : World) (s : Mt.Ps) : Prop := ∃ a c, u.heap[b]? = some (.cells #[.slice a s.fails.length c, .int .i64 s.locked, .int .i64 s.changed] 26) ∧ IsTm u (.slice a s.fails.length c) s.fails
set_option maxRecDepth 100000 in
set_option maxHeartbeats 4000000 in
theorem walk (f wi lo ag fr wt : Int) (_ : (Lit.int .i64 fr).wf = true) (_ : (Lit.int .i64 wt).wf = true) (w : World) : Calls Try.prog 4 #[.agg #[.int .i64 f, .int .i64 wi, .int .i64 lo, .int .i64 ag], .int .i64 fr, .int .i64 wt] w fun e w' => e = .returned (.bool true) ∧ Below w.heap.size w w' := by
  have HAW := Lib.hid (fun u => awake23_any u)
  have HNEW : Hid (∀ u : World, Calls Try.prog 14 #[.int .i64 fr] u fun e w' => e = .returned (.agg #[.slice none 0 0, .int .i64 (-1), .int .i64 fr]) ∧ Below u.heap.size u w') := Lib.hid (fun u => new23_any fr u)
  have HCK : Hid (∀ u : World, Calls Try.prog 6 #[.agg #[.int .i64 f, .int .i64 wi, .int .i64 lo, .int .i64 ag]] u fun e w' => e = .returned (.int .i64 (if Mt.okPo ⟨f, wi, lo, ag⟩ = true then 0 else 2)) ∧ Below u.heap.size u w') := Lib.hid (fun u => check23_any ⟨f, wi, lo, ag⟩ u)
  obtain ⟨st, hst⟩ : ∃ st, wt.tmod 2 = st := ⟨_, rfl⟩
  have HST := Lib.hid hst
  obtain ⟨zc, hzc⟩ : ∃ z, Mt.okPo ⟨f, wi, lo, ag⟩ = z := ⟨_, rfl⟩
  rw [hzc] at HCK
  have HZC := Lib.hid hzc
  obtain ⟨zf, hzf⟩ : ∃ z, (f == 0) = z := ⟨_, rfl⟩
  obtain ⟨zw0, hzw0⟩ : ∃ z, decide (0 < wi) = z := ⟨_, rfl⟩
  obtain ⟨zw1, hzw1⟩ : ∃ z, decide (wi < 200) = z := ⟨_, rfl⟩
  obtain ⟨zr0, hzr0⟩ : ∃ z, decide (fr < 0) = z := ⟨_, rfl⟩
  obtain ⟨zr1, hzr1⟩ : ∃ z, decide (1125899906842624 < fr) = z := ⟨_, rfl⟩
  obtain ⟨zt0, hzt0⟩ : ∃ z, decide (wt < 0) = z := ⟨_, rfl⟩
  obtain ⟨zt1, hzt1⟩ : ∃ z, decide (1125899906842624 < wt) = z := ⟨_, rfl⟩
  obtain ⟨bad, hbad⟩ : ∃ z, (!zc || zf || (zw0 && zw1) || zr0 || zr1 || zt0 || zt1) = z := ⟨_, rfl⟩
  have HBAD := Lib.hid hbad
  have HEQ := Lib.hid (And.intro hzf (And.intro hzw0 (And.intro hzw1 (And.intro hzr0 (And.intro hzr1 (And.intro hzt0 hzt1))))))
  obtain ⟨w1, hw1⟩ : ∃ u, w.alloc (.cells #[.int .i64 f, .int .i64 wi, .int .i64 lo, .int .i64 ag] 23) = u := ⟨_, rfl⟩
  have hA : Below w.heap.size w w1 := by rw [← hw1]; exact (Below.refl _ w).alloc (Nat.le_refl _) _
  have hx1 : w1.heap[w.heap.size]? = some (.cells #[.int .i64 f, .int .i64 wi, .int .i64 lo, .int .i64 ag] 23) := by rw [← hw1]; exact heap_alloc_new w _
  have HQ : Hid (∀ u, Below w1.heap.size w1 u → Below w.heap.size w u ∧ (u.cell? ⟨w.heap.size, 0, none⟩ = some (.int .i64 f) ∧ u.cell? ⟨w.heap.size, 1, none⟩ = some (.int .i64 wi) ∧ u.cell? ⟨w.heap.size, 2, none⟩ = some (.int .i64 lo) ∧ u.cell? ⟨w.heap.size, 3, none⟩ = some (.int .i64 ag))) := Lib.hid (fun u hu => ⟨hA.trans (hu.mono hA.size), box4_of ((hu.block _ (lt_of_block hx1)).trans hx1)⟩)
  obtain ⟨-, p0, p1, p2, p3⟩ := HQ.out w1 (Below.refl _ _)
  have HLT : Hid (w.heap.size < w1.heap.size) := Lib.hid (lt_of_block hx1)
  have HW1 := Lib.hid hw1
  clear hA hx1 hbad hzc
  go_enter Try.func4, Try.ntmps4
  go_upto_region 2 with fail
  try rw [HW1.out]
  go_cut [53] from 20 to 53 (fun t53 wx => t53 = .bool bad ∧ Hid (Below w1.heap.size w1 wx))
  case first =>
    go_wp2_with fail
    refine (HCK.out _).mono ?_
    rintro e u1 ⟨rfl, hb⟩
    have HU := Lib.hid hb
    clear hb p0 p1 p2 p3
    obtain ⟨-, p0, p1, p2, p3⟩ := HQ.out u1 HU.out
    cases zc
    · go_wp2_with fail
      all_goals (go_meet; exact ⟨by rw [← HBAD.out]; simp, HU⟩)
    rcases Bool.eq_false_or_eq_true zf with rfl | rfl
    · go_wp2_with fail
      all_goals (go_meet; exact ⟨by rw [← HBAD.out]; simp, HU⟩)
    obtain ⟨zw, hzw⟩ : ∃ z, (zw0 && zw1) = z := ⟨_, rfl⟩
    by_cases hww : zw0 = true ∧ zw1 = true
    · obtain ⟨rfl, rfl⟩ := hww
      go_wp2_with fail
      all_goals (go_meet; exact ⟨by rw [← HBAD.out]; simp, HU⟩)
    have hzz : (zw0 && zw1) = false := by cases zw0 <;> cases zw1 <;> simp at hww ⊢
    have HZZ := Lib.hid hzz
    clear hzw hww hzz
    cases zw0 <;> cases zw1
    case true.true => cases HZZ.out
    all_goals
      rcases Bool.eq_false_or_eq_true zr0 with rfl | rfl
      · go_wp2_with fail
        all_goals (go_meet; exact ⟨by rw [← HBAD.out]; simp, HU⟩)
      rcases Bool.eq_false_or_eq_true zr1 with rfl | rfl
      · go_wp2_with fail
        all_goals (go_meet; exact ⟨by rw [← HBAD.out]; simp, HU⟩)
      rcases Bool.eq_false_or_eq_true zt0 with rfl | rfl
      · go_wp2_with fail
        all_goals (go_meet; exact ⟨by rw [← HBAD.out]; simp, HU⟩)
      cases zt1
      all_goals (go_wp2_with fail; all_goals (go_meet; exact ⟨by rw [← HBAD.out]; simp, HU⟩))
  case rest =>
    revert wc
    intro wA hcut
    obtain ⟨rfl, HU⟩ := hcut
    clear p0 p1 p2 p3
    obtain ⟨hbw, p0, p1, p2, p3⟩ := HQ.out wA HU.out
    have HBW := Lib.hid hbw
    clear hbw hzf hzw0 hzw1 hzr0 hzr1 hzt0 hzt1
    rcases Bool.eq_false_or_eq_true bad with rfl | rfl
    · go_wp2_with fail
      refine (HAW.out _).mono ?_
      rintro e u2 ⟨rfl, hb⟩
      go_wp2_with fail
      all_goals (go_ret; exact ⟨rfl, HBW.out.trans (hb.mono HBW.out.size)⟩)
    · have hall : zc = true ∧ zf = false ∧ (zw0 && zw1) = false ∧ zr0 = false ∧ zr1 = false ∧ zt0 = false ∧ zt1 = false := by
        have h := HBAD.out
        cases zc <;> cases zf <;> cases zr0 <;> cases zr1 <;> cases zt0 <;> cases zt1 <;> cases zw0 <;> cases zw1 <;> simp at h ⊢
      obtain ⟨rfl, rfl, hww, rfl, rfl, rfl, rfl⟩ := hall
      obtain ⟨e1, e2, e3, e4, e5, e6, e7⟩ := HEQ.out
      have hok : Mt.okPo ⟨f, wi, lo, ag⟩ = true := HZC.out
      have hf : (0 ≤ f ∧ f ≤ 100) ∧ Mt.isT wi = true ∧ Mt.isT lo = true ∧ Mt.isT ag = true := Mt.okPo_iff.1 hok
      have hf0 : f ≠ 0 := by simpa using e1
      have hwin : wi = 0 ∨ 200 ≤ wi := by
        have h1 := (Mt.isT_iff.1 hf.2.1).1
        rw [← e2, ← e3] at hww
        by_cases h : wi = 0
        · exact .inl h
        · rw [decide_eq_true (by omega), Bool.true_and, decide_eq_false_iff_not] at hww
          exact .inr (by omega)
      have hfr : 0 ≤ fr ∧ fr ≤ 1125899906842624 := ⟨by have := of_decide_eq_false e4; omega, by have := of_decide_eq_false e5; omega⟩
      have hwt : 0 ≤ wt ∧ wt ≤ 1125899906842624 := ⟨by have := of_decide_eq_false e6; omega, by have := of_decide_eq_false e7; omega⟩
      have hs01 : st = 0 ∨ st = 1 := by
        have h := HST.out
        rw [Int.tmod_eq_emod_of_nonneg hwt.1] at h
        omega
      obtain ⟨F, hF⟩ : ∃ F : Nat, f = (F : Int) := ⟨f.toNat, by omega⟩
      subst hF
      have HF1 : Hid (1 ≤ F ∧ F ≤ 100) := Lib.hid (by omega)
      have HSTP : Hid (∀ i : Nat, i < F → Mt.tryL ⟨(F : Int), wi, lo, ag⟩ (Mt.lockL ⟨(F : Int), wi, lo, ag⟩ fr st i) (fr + st * (i : Int)) false = (Mt.lockL ⟨(F : Int), wi, lo, ag⟩ fr st (i + 1), 1)) := Lib.hid (fun i hi => Mt.lock_step (p := ⟨(F : Int), wi, lo, ag⟩) hok hwin hfr hs01 i (by simp only; omega))
      have HLEN : Hid (∀ i : Nat, i ≤ F → (Mt.lockL ⟨(F : Int), wi, lo, ag⟩ fr st i).fails.length ≤ 100) := Lib.hid (fun i hi => by
        unfold Mt.lockL
        split
        · simp only [Mt.timesL_len]; omega
        · simp)
      have HEND : Hid (Mt.lockL ⟨(F : Int), wi, lo, ag⟩ fr st F = ⟨[], fr + st * ((F : Int) - 1), fr⟩) := Lib.hid (by unfold Mt.lockL; rw [if_neg (by simp only; omega)])
      have HZERO : Hid (Mt.lockL ⟨(F : Int), wi, lo, ag⟩ fr st 0 = ⟨[], -1, fr⟩) := Lib.hid (by unfold Mt.lockL; rw [if_pos (by simp only; omega)]; rfl)
      have HFIN : Hid (∀ right : Bool, Mt.tryL ⟨(F : Int), wi, lo, ag⟩ ⟨[], fr + st * ((F : Int) - 1), fr⟩ (fr + st * ((F : Int) - 1) + wt) right = _) := Lib.hid (fun right => Mt.lock_end (p := ⟨(F : Int), wi, lo, ag⟩) hok hfr hs01 (by simp only; omega) hwt right)
      have HAR : Hid (∀ i : Nat, i ≤ 100 → wrap64 (st * (i : Int)) = st * (i : Int) ∧ wrap64 (fr + st * (i : Int)) = fr + st * (i : Int)) := Lib.hid (fun i hi => by
        have h := Mt.step_le hs01 i
        exact ⟨by unfold wrap64; omega, by unfold wrap64; omega⟩)
      have HBD : Hid ((0 ≤ fr ∧ fr ≤ 1125899906842624) ∧ (0 ≤ wt ∧ wt ≤ 1125899906842624) ∧ (st = 0 ∨ st = 1)) := Lib.hid ⟨hfr, hwt, hs01⟩
      clear e1 e2 e3 e4 e5 e6 e7 hok hf hf0 hwin hfr hwt hs01 hww
      go_wp2_with fail
      refine (HNEW.out _).mono ?_
      rintro e w4 ⟨rfl, hb⟩
      have HR4 := Lib.hid (HU.out.trans (hb.mono HU.out.size))
      obtain ⟨w5, hw5⟩ : ∃ u, w4.alloc (.cells #[.slice none 0 0, .int .i64 (-1), .int .i64 fr] 26) = u := ⟨_, rfl⟩
      have hA5 : Below w4.heap.size w4 w5 := by rw [← hw5]; exact (Below.refl _ w4).alloc (Nat.le_refl _) _
      have hx5 : w5.heap[w4.heap.size]? = some (.cells #[.slice none 0 0, .int .i64 (-1), .int .i64 fr] 26) := by rw [← hw5]; exact heap_alloc_new w4 _
      have HR5 := Lib.hid (HR4.out.trans (hA5.mono HR4.out.size))
      have HW5 := Lib.hid hw5
      have HB5 : Hid (Box w4.heap.size w5 (Mt.lockL ⟨(F : Int), wi, lo, ag⟩ fr st 0)) := Lib.hid (by rw [HZERO.out]; exact ⟨none, 0, hx5, IsTm.nil _⟩)
      have HGE : Hid (w1.heap.size ≤ w4.heap.size) := Lib.hid HR4.out.size
      clear hb hA5 hx5 hw5 p0 p1 p2 p3
      go_upto_region 5 with fail
      rw [HW5.out]
      obtain ⟨-, p0, p1, p2, p3⟩ := HQ.out w5 HR5.out
      go_wp2_with fail
      go_loopw [59] (fun kv wr => ∃ i : Nat, i ≤ F ∧ kv = .int .i64 (i : Int) ∧ Hid (Box w4.heap.size wr (Mt.lockL ⟨(F : Int), wi, lo, ag⟩ fr st i)) ∧ Hid (Below w1.heap.size w1 wr)) (fun kv _ => F - (intOf kv).toNat)
      case atStart => exact ⟨0, Nat.zero_le _, rfl, HB5, HR5⟩
      case round =>
        obtain ⟨i, hi, rfl, HBX, HB⟩ := hrel
        clear p0 p1 p2 p3
        obtain ⟨hbw, p0, p1, p2, p3⟩ := HQ.out wr HB.out
        have HBW2 := Lib.hid hbw
        clear hbw
        by_cases hlt : i < F
        · have d1 : decide ((i : Int) < (F : Int)) = true := decide_eq_true (by omega)
          have d2 : decide (i < F) = true := decide_eq_true hlt
          obtain ⟨r1, r2⟩ := HAR.out i (by have := HF1.out; omega)
          have hstp := HSTP.out i hlt
          have hlen := HLEN.out i hi
          obtain ⟨S, hS⟩ : ∃ S, Mt.lockL ⟨(F : Int), wi, lo, ag⟩ fr st i = S := ⟨_, rfl⟩
          obtain ⟨S', hS'⟩ : ∃ S, Mt.lockL ⟨(F : Int), wi, lo, ag⟩ fr st (i + 1) = S := ⟨_, rfl⟩
          rw [hS] at hstp hlen HBX
          rw [hS'] at hstp
          have HS' := Lib.hid hS'
          obtain ⟨a, c, hrow, htm⟩ := HBX.out
          have HT := Lib.hid (try23_any (s := S) ⟨(F : Int), wi, lo, ag⟩ (fr + st * (i : Int)) false htm (by omega))
          rw [hstp] at HT
          obtain ⟨l, lk, ch⟩ := S
          obtain ⟨l', lk', ch'⟩ := S'
          unfold stV poV at HT
          simp only at HT hrow htm
          obtain ⟨n, hn⟩ : ∃ n, l.length = n := ⟨_, rfl⟩
          rw [hn] at HT hrow
          obtain ⟨y0, y1, y2⟩ := box3_of hrow
          have HROW := Lib.hid hrow
          have wk : wrap64 ((i : Int) + 1) = ((i + 1 : Nat) : Int) := by have := HF1.out; unfold wrap64; omega
          clear hS hS' hstp hlen htm hrow hn
          go_wp2_with fail
          refine (HT.out).mono ?_
          rintro e w6 ⟨x, rfl, hown, hb⟩
          obtain ⟨a6, c6, rfl, ht6, hf6⟩ := hown.raw (n := l'.length) rfl
          have hrow6 := (hb.block _ (lt_of_block HROW.out)).trans HROW.out
          have hB6 := HB.out.trans (hb.mono HB.out.size)
          have hf6b : ∀ b2 off, a6 = some ⟨b2, off, none⟩ → b2 ≠ w4.heap.size := farNe hf6 (lt_of_block HROW.out)
          have hm := meetS (N := w1.heap.size) (w0 := w1) (lk := lk') (ch := ch') hB6 (Nat.le_refl _) ht6 hrow6 HGE.out hf6b
          have HM := Lib.hid hm
          obtain ⟨⟨z0, z1, z2⟩, f0, f1, f2⟩ := box3F_of hrow6
          clear hb hown ht6 hf6 hrow6 hB6 hf6b hm y0 y1 y2
          go_wp2_with fail
          go_roundw
          case rel => exact ⟨i + 1, by omega, by first | exact congrArg _ wk | rfl | go_num, Lib.hid (by rw [HS'.out]; exact ⟨a6, c6, HM.out.1, HM.out.2.1⟩), Lib.hid HM.out.2.2.2.2⟩
          case measure => first | exact meas_step23 hlt | (rw [wk]; exact meas_step23 hlt)
        · obtain rfl : i = F := by omega
          have d1 : decide ((i : Int) < (i : Int)) = false := decide_eq_false (by omega)
          have d2 : decide (i < i) = false := decide_eq_false (by omega)
          rw [HEND.out] at HBX
          obtain ⟨a, c, hrow, htm⟩ := HBX.out
          simp only [List.length_nil] at hrow htm
          obtain ⟨AT, hAT⟩ : ∃ AT, fr + st * ((i : Int) - 1) = AT := ⟨_, rfl⟩
          have hbd := HBD.out
          have hf1 := HF1.out
          have hstb : 0 ≤ st * ((i : Int) - 1) ∧ st * ((i : Int) - 1) ≤ 99 := by rcases hbd.2.2 with h | h <;> subst h <;> omega
          have r1 : wrap64 ((i : Int) - 1) = (i : Int) - 1 := by unfold wrap64; omega
          have r2 : wrap64 (st * ((i : Int) - 1)) = st * ((i : Int) - 1) := by unfold wrap64; omega
          have r3 : wrap64 (fr + st * ((i : Int) - 1)) = AT := by rw [← hAT]; unfold wrap64; omega
          have r4 : wrap64 (AT + wt) = AT + wt := by rw [← hAT]; unfold wrap64; omega
          have r5 : wrap64 (AT + wt - fr) = AT + wt - fr := by rw [← hAT]; unfold wrap64; omega
          have HT := Lib.hid (fun (right : Bool) (u : World) (ht : IsTm u (.slice a 0 c) []) => try23_any (s := ⟨[], AT, fr⟩) ⟨(i : Int), wi, lo, ag⟩ (AT + wt) right ht (by simp))
          have hfin := HFIN.out
          simp only [hAT] at hfin
          rw [hAT] at hrow
          have HROW := Lib.hid hrow
          obtain ⟨y0, y1, y2⟩ := box3_of hrow
          obtain ⟨zl0, hzl0⟩ : ∃ z, (lo == 0) = z := ⟨_, rfl⟩
          obtain ⟨zl1, hzl1⟩ : ∃ z, decide (wt < lo) = z := ⟨_, rfl⟩
          have hzl0' : decide (lo = 0) = zl0 := by rw [← hzl0]; rfl
          obtain ⟨za0, hza0⟩ : ∃ z, decide (0 < ag) = z := ⟨_, rfl⟩
          obtain ⟨za1, hza1⟩ : ∃ z, decide (ag ≤ AT + wt - fr) = z := ⟨_, rfl⟩
          simp only [hzl0', hzl1, hza0, hza1] at hfin
          have HFI := Lib.hid hfin
          have HXR : Hid (∀ u, Below wr.heap.size wr u → Below w.heap.size w u ∧ (u.cell? ⟨w.heap.size, 0, none⟩ = some (.int .i64 (i : Int)) ∧ u.cell? ⟨w.heap.size, 1, none⟩ = some (.int .i64 wi) ∧ u.cell? ⟨w.heap.size, 2, none⟩ = some (.int .i64 lo) ∧ u.cell? ⟨w.heap.size, 3, none⟩ = some (.int .i64 ag)) ∧ (u.cell? ⟨w4.heap.size, 0, none⟩ = some (.slice a 0 c) ∧ u.cell? ⟨w4.heap.size, 1, none⟩ = some (.int .i64 AT) ∧ u.cell? ⟨w4.heap.size, 2, none⟩ = some (.int .i64 fr))) := Lib.hid (fun u hu => ⟨(HQ.out u (HB.out.trans (hu.mono HB.out.size))).1, (HQ.out u (HB.out.trans (hu.mono HB.out.size))).2, box3_of ((hu.block _ (lt_of_block HROW.out)).trans HROW.out)⟩)
          have HRr := Lib.hid (Below.refl wr.heap.size wr)
          unfold stV poV at HT
          simp only at HT
          have e2 : (AT == AT) = true := beq_self_eq_true _
          clear hAT hbd hf1 hstb hrow htm hfin hzl0' 
          go_upto_region 15 with fail
          simp only [r3, r4]
          clear r1 r2 r3 r4
          have HTR := HT.out true wr (IsTm.empty _ _ _)
          have HTW := fun (u : World) => HT.out false u (IsTm.empty u a c)
          obtain ⟨TR, hTR⟩ : ∃ T, Mt.tryL ⟨(i : Int), wi, lo, ag⟩ ⟨[], AT, fr⟩ (AT + wt) true = T := ⟨_, rfl⟩
          obtain ⟨TW, hTW⟩ : ∃ T, Mt.tryL ⟨(i : Int), wi, lo, ag⟩ ⟨[], AT, fr⟩ (AT + wt) false = T := ⟨_, rfl⟩
          rw [hTR] at HTR
          simp only [hTW] at HTW
          have HTT := Lib.hid (And.intro hTR hTW)
          obtain ⟨⟨lR, lkR, chR⟩, cR⟩ := TR
          obtain ⟨⟨lW, lkW, chW⟩, cW⟩ := TW
          have HTR := Lib.hid HTR
          have HTW := Lib.hid HTW
          have HAT := Lib.hid r5
          clear hTR hTW r5 e2
          go_wp2_with fail
          refine (HTR.out).mono ?_
          rintro e u1 ⟨x1, rfl, hown1, hb1⟩
          obtain ⟨a1, n1, c1, rfl, -⟩ := hown1
          have HR1 := Lib.hid (HRr.out.trans hb1)
          obtain ⟨u2, hu2⟩ : ∃ u, u1.alloc (.cells #[.slice a1 n1 c1, .int .i64 lkR, .int .i64 chR] 26) = u := ⟨_, rfl⟩
          have hA2 : Below u1.heap.size u1 u2 := by rw [← hu2]; exact (Below.refl _ u1).alloc (Nat.le_refl _) _
          have HR2 := Lib.hid (HR1.out.trans (hA2.mono HR1.out.size))
          have HU2 := Lib.hid hu2
          clear hb1 hA2 hu2 p0 p1 p2 p3 y0 y1 y2
          unfold stV
          simp only
          go_upto_region 16 with fail
          rw [HU2.out]
          obtain ⟨-, p4, q3⟩ := HXR.out u2 HR2.out
          obtain ⟨p0, p1, p2, p3⟩ := p4
          obtain ⟨y0, y1, y2⟩ := q3
          have HTWu := Lib.hid (HTW.out u2)
          go_wp2_with fail
          refine (HTWu.out).mono ?_
          rintro e u3 ⟨x3, rfl, hown3, hb3⟩
          obtain ⟨a3, n3, c3, rfl, -⟩ := hown3
          have HR3 := Lib.hid (HR2.out.trans (hb3.mono HR2.out.size))
          obtain ⟨u4, hu4⟩ : ∃ u, u3.alloc (.cells #[.slice a3 n3 c3, .int .i64 lkW, .int .i64 chW] 26) = u := ⟨_, rfl⟩
          have hA4 : Below u3.heap.size u3 u4 := by rw [← hu4]; exact (Below.refl _ u3).alloc (Nat.le_refl _) _
          have HR4' := Lib.hid (HR3.out.trans (hA4.mono HR3.out.size))
          have HU4 := Lib.hid hu4
          clear hb3 hA4 hu4 p0 p1 p2 p3 y0 y1 y2
          unfold stV
          simp only
          go_upto_region 17 with fail
          rw [HU4.out]
          obtain ⟨hbw4, p4, q3⟩ := HXR.out u4 HR4'.out
          obtain ⟨p0, p1, p2, p3⟩ := p4
          obtain ⟨y0, y1, y2⟩ := q3
          have HBW4 := Lib.hid hbw4
          have HAW4 := Lib.hid (HAW.out u4)
          have r5 := HAT.out
          have e2 : (AT == AT) = true := beq_self_eq_true _
          clear hbw4
          have hR := HFI.out true
          have hW := HFI.out false
          rw [HTT.out.1] at hR
          rw [HTT.out.2] at hW
          by_cases hl : (zl0 || zl1) = true
          · rw [if_pos hl] at hR hW
            obtain ⟨rfl⟩ : cR = 2 := congrArg Prod.snd hR
            obtain ⟨rfl⟩ : cW = 2 := congrArg Prod.snd hW
            clear hR hW
            cases zl0 <;> cases zl1
            case false.false => cases hl
            all_goals
              clear hl
              go_wp2_with fail
              refine (HAW4.out).mono ?_
              rintro e u5 ⟨rfl, hb⟩
              obtain ⟨hbw5, p4, q3⟩ := HXR.out u5 (HR4'.out.trans (hb.mono HR4'.out.size))
              clear p0 p1 p2 p3 y0 y1 y2
              obtain ⟨p0, p1, p2, p3⟩ := p4
              obtain ⟨y0, y1, y2⟩ := q3
              go_wp2_with fail
              all_goals (go_ret; exact ⟨by first | rfl | simp, hbw5⟩)
          · obtain ⟨rfl, rfl⟩ : zl0 = false ∧ zl1 = false := by cases zl0 <;> cases zl1 <;> simp at hl ⊢
            rw [if_neg hl] at hR hW
            rw [if_pos rfl] at hW
            rw [if_neg (by decide)] at hR
            obtain ⟨rfl⟩ : cW = 1 := congrArg Prod.snd hW
            by_cases ha : (za0 && za1) = true
            · rw [if_pos ha] at hR
              obtain ⟨rfl⟩ : cR = 3 := congrArg Prod.snd hR
              obtain ⟨rfl, rfl⟩ : za0 = true ∧ za1 = true := by simpa using ha
              clear hR hW hl ha
              go_wp2_with fail
              refine (HAW4.out).mono ?_
              rintro e u5 ⟨rfl, hb⟩
              go_wp2_with fail
              all_goals (go_ret; exact ⟨by first | rfl | simp, HBW4.out.trans (hb.mono HBW4.out.size)⟩)
            · rw [if_neg ha] at hR
              obtain ⟨rfl⟩ : cR = 0 := congrArg Prod.snd hR
              cases za0 <;> cases za1
              case true.true => exact absurd rfl ha
              all_goals
                clear hR hW hl ha
                go_wp2_with fail
                refine (HAW4.out).mono ?_
                rintro e u5 ⟨rfl, hb⟩
                go_wp2_with fail
                all_goals (go_ret; exact ⟨by first | rfl | simp, HBW4.out.trans (hb.mono HBW4.out.size)⟩)

/-! The step from the walk to the row. -/
theorem own : ownKnob Try.prog.godebug = none := by kernel_rfl
theorem laidOut : laidOutB Try.prog = true := by kernel_rfl

set_option maxRecDepth 100000 in
theorem lifted (os : Os) (started : os.Started) (H : Type) (enc : TypeId × Value → H) :
    ReturnsInHanded {} Try.checked os 4 .any (Rows.policyLocksSpec.pre6 enc Try.prog Try.f4 Rows.policyLocksRow.domain false) (Rows.policyLocksSpec.post enc Try.prog Try.f4 false true false false) := by
  refine returnsInHanded_of_change_sized (C := Try.checked) own started (by kernel_rfl) Try.func4
    (ChangeSpec.witness6 (enc := enc) (C := Try.checked) false ⟨#[], #[.agg #[.int .i64 0, .int .i64 0, .int .i64 0, .int .i64 0], .int .i64 0, .int .i64 0], []⟩ 8 (by kernel_rfl) (by kernel_rfl) (by kernel_rfl) (by kernel_rfl)) ?_
  intro W base args ds gs before hval0 hW _ hsz0 _
  have hsz : (DataW.weightsEach Try.prog (Try.f4.params.toList ++ Rows.policyLocksSpec.plain.varTypes Try.prog) (ds ++ gs)).all (· ≤ reachBytes) = true := hsz0
  have hval : ∀ (j : Nat) t v, Try.f4.params[j]? = some t → args[j]? = some v → Value.okWide Try.prog W .any base t v := hval0
  have hW' := hW
  obtain ⟨p, q, hA0, hV, rfl, _, _⟩ := hW
  have hA : DataW.TrodAll enc Try.prog W 0 (fun _ => true) true Try.f4.params.toList args.toList ds p := hA0
  rw [Try.params4] at hA hval hsz
  obtain ⟨v0, vs0, d0, ds0, p0, q0, hargs, rfl, rfl, h0, r0⟩ := trodAll_cons hA
  obtain ⟨v1, vs1, d1, ds1, p1, q1, rfl, rfl, rfl, h1, r1⟩ := trodAll_cons r0
  obtain ⟨v2, vs2, d2, ds2, p2, q2, rfl, rfl, rfl, h2, r2⟩ := trodAll_cons r1
  obtain ⟨rfl, rfl, rfl⟩ := trodAll_nil r2
  obtain rfl : args = #[v0, v1, v2] := by cases args; simp_all
  obtain ⟨rfl, rfl⟩ := trodVars_none hV
  have k0 := h0
  have lt0 : ∀ x ∈ p0, x.block < W.heap.size := by obtain ⟨m, hm⟩ := k0; exact DataW.trod_lt m _ _ _ hm
  obtain ⟨f0, wi0, lo0, ag0, rfl⟩ := open_pol (hval 0 23 v0 rfl rfl) h0
  obtain ⟨a1, rfl, rfl, rfl, w1⟩ := open_int Try.underlying2 (hval 1 2 v1 rfl rfl) h1
  obtain ⟨a2, rfl, rfl, rfl, w2⟩ := open_int Try.underlying2 (hval 2 2 v2 rfl rfl) h2
  clear hA0 hval0
  simp only [List.append_nil] at hW'
  refine (walk f0 wi0 lo0 ag0 a1 a2 w1 w2 W ).mono fun e W' ⟨he, bel⟩ => ?_
  subst he
  exact ⟨_, rfl, _, _, _, [], _, [], hW', trodAll_mk1 (shut_bool Try.underlying4 _), (trodAll_cons_mk (Below.trod laidOut (by kernel_rfl) (of_decide_eq_true (by kernel_rfl)) k0 bel lt0) (trodAll_cons_mk (shut_int Try.underlying2 w1) (trodAll_cons_mk (shut_int Try.underlying2 w2) trodAll_mk0))), rfl, bel.frame _, fun h => by cases h⟩

theorem proved : Rows.PolicyLocksSaid :=
  OpenClaim.holds_of_wide 4 Try.f4 rfl rfl rfl rfl rfl rfl rfl ⟨rfl, rfl, rfl, rfl, rfl⟩ rfl rfl rfl rfl rfl (by kernel_rfl) Try.func4 (by kernel_rfl)
    (of_decide_eq_true (by kernel_rfl)) (by unfold Func.isWrapper; first | (rw [if_pos (by decide +kernel)]; kernel_rfl) | (rw [if_neg (by decide +kernel)]; exact ⟨rfl, rfl⟩))
    (fun os started H enc _ => lifted os started H enc)

#print axioms proved
end Go.Proofs.Ytefglemmndchcaa.policyLocks
