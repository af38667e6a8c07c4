/-
  What comes of a try, by the document.
-/
import Derived.Test.YtcijjblcoelabaaPlL
import Derived.Test.YtcijjblcoelabaaPlT
import Derived.Test.YtcijjblcoelabaaPlJ
set_option linter.unusedVariables false
set_option linter.unusedSimpArgs false
namespace Go.Proofs.Ytcijjblcoelabaa
open Go.RowKit Go.Shelf

/-- A row of the call's own lies at its base or behind, whatever its length is called. -/
theorem own_far23 {base : Nat} {w : World} {a : Option Addr} {m n c : Nat} {xs : List Value} (h : IsOwn 2 1 base w (.slice a m c) n xs) : ∀ b off, a = some ⟨b, off, none⟩ → base ≤ b := by
  obtain ⟨g, hg, _, h⟩ := h
  intro b off e
  rcases h with ⟨_, h1⟩ | ⟨off2, cap, cur, h1, _⟩
  · injection h1 with e1; rw [e] at e1; cases e1
  · injection h1 with e1
    rw [e] at e1
    injection e1 with e2
    injection e2 with e3
    omega
/-- A slice that is that one, or lies at a place or behind. -/
def FarSl (x v : Value) (N : Nat) : Prop := x = v ∨ ∃ a n c, x = .slice a n c ∧ ∀ b off, a = some ⟨b, off, none⟩ → N ≤ b
theorem then_ret23 {K : Act → World → Prop} {Q : Exit → Act → World → Prop} {a : Act} {w : World} (h : Q .ret a w) : Exit.then K Q .ret a w := h
theorem meas_step {N j : Nat} (h : j < N) : N - (intOf (.int .i64 ((j + 1 : Nat) : Int))).toNat < N - (intOf (.int .i64 (j : Int))).toNat := by
  simp [intOf]; omega
set_option maxRecDepth 100000 in
set_option maxHeartbeats 4000000 in
theorem rtry23_any {w : World} {v : Value} {s : Mt.Ps} (p : Mt.Po) (now : Int) (right : Bool) (hv : IsTm w v s.fails) (hn : s.fails.length ≤ 1000) :
    Calls Try.prog 17 #[poV p, stV v s, .int .i64 now, .bool right] w fun e w' => ∃ x, e = .returned (.tuple #[stV x (Mt.tryL p s now right).1, .int .i64 (Mt.tryL p s now right).2]) ∧ IsTm w' x (Mt.tryL p s now right).1.fails ∧ Below w.heap.size w w' ∧ FarSl x v w.heap.size := by
  have HCK := Lib.hid (fun (u : World) => rcheck23_any p u)
  have HRT := Lib.hid (fun (u : World) (hb : Below w.heap.size w u) => rright23_any (s := s) (hv.below hb) (by omega))
  have HTM := Lib.hid (fun (u : World) => time23_any now u)
  have HV := Lib.hid hv
  obtain ⟨va, vc, rfl, hvc, -⟩ := id hv
  have HRI := Lib.hid (Mt.rightB_iff (s := s)).1
  have HOI := Lib.hid (Mt.okPo_iff (p := p)).1
  have HTI := Lib.hid (Mt.isT_iff (n := now)).1
  have HCE := Lib.hid (Mt.count_keep (p := p) (s := s) (now := now))
  have H0 := Lib.hid (Mt.try_bad (p := p) (s := s) (now := now) (right := right))
  have H1 := Lib.hid (Mt.try_locked (p := p) (s := s) (now := now) (right := right))
  have H2 := Lib.hid (Mt.try_fail (p := p) (s := s) (now := now))
  have H3 := Lib.hid (Mt.try_stale (p := p) (s := s) (now := now))
  have H4 := Lib.hid (Mt.try_good (p := p) (s := s) (now := now))
  have HST : Hid (Mt.staleB p s now = (decide (0 < p.age) && decide (p.age ≤ now - s.changed))) := Lib.hid rfl
  have HLB : Hid (Mt.lockedB p s now = (!decide (s.locked = -1) && (decide (p.lock = 0) || decide (now - s.locked < p.lock)))) := Lib.hid rfl
  obtain ⟨ok, hok⟩ : ∃ z, Mt.okPo p = z := ⟨_, rfl⟩
  obtain ⟨rs, hrs⟩ : ∃ z, Mt.rightB s = z := ⟨_, rfl⟩
  obtain ⟨tn, htn⟩ : ∃ z, Mt.isT now = z := ⟨_, rfl⟩
  obtain ⟨lz, hlz⟩ : ∃ z, Mt.lockedB p s now = z := ⟨_, rfl⟩
  obtain ⟨sz, hsz⟩ : ∃ z, Mt.staleB p s now = z := ⟨_, rfl⟩
  rw [hok] at HCK
  rw [hrs] at HRT
  rw [htn] at HTM
  rw [hok, hrs, htn] at H0 H1 H2 H3 H4
  rw [hlz] at H1 H2 H3 H4 HLB
  rw [hsz] at H3 H4 HST
  have HOK := Lib.hid (And.intro hok (And.intro hrs htn))
  obtain ⟨T, hT⟩ : ∃ T, Mt.tryL p s now right = T := ⟨_, rfl⟩
  have HT := Lib.hid hT
  rw [hT]
  clear hok hrs htn hlz hsz hT hv
  have HP : Hid (∃ q, q = p) := Lib.hid ⟨p, rfl⟩
  obtain ⟨l, lk, ch⟩ := s
  obtain ⟨f, wi, lo, ag⟩ := p
  simp only at hn HRI HOI HST HLB HV hvc
  unfold stV poV at *
  simp only at HCK HRT ⊢
  obtain ⟨L0, hL0⟩ : ∃ n, l.length = n := ⟨_, rfl⟩
  have HL0 := Lib.hid hL0
  have HV := Lib.hid HV.out
  rw [hL0] at HRT hn hvc HV ⊢
  clear hL0
  obtain ⟨w1, hw1⟩ : ∃ u, w.alloc (.cells #[.int .i64 f, .int .i64 wi, .int .i64 lo, .int .i64 ag] 23) = u := ⟨_, rfl⟩
  have hA : Below w.heap.size w w1 := by rw [← hw1]; exact (Below.refl _ w).alloc (Nat.le_refl _) _
  have hx1 : w1.heap[w.heap.size]? = some (.cells #[.int .i64 f, .int .i64 wi, .int .i64 lo, .int .i64 ag] 23) := by rw [← hw1]; exact heap_alloc_new w _
  obtain ⟨w2, hw2⟩ : ∃ u, w1.alloc (.cells #[.slice va L0 vc, .int .i64 lk, .int .i64 ch] 34) = u := ⟨_, rfl⟩
  have hA2 : Below w1.heap.size w1 w2 := by rw [← hw2]; exact (Below.refl _ w1).alloc (Nat.le_refl _) _
  have hx2 : w2.heap[w1.heap.size]? = some (.cells #[.slice va L0 vc, .int .i64 lk, .int .i64 ch] 34) := by rw [← hw2]; exact heap_alloc_new w1 _
  obtain ⟨w3, hw3⟩ : ∃ u, w2.alloc (.cells #[.slice none 0 0, .int .i64 0, .int .i64 0] 34) = u := ⟨_, rfl⟩
  have hA3 : Below w2.heap.size w2 w3 := by rw [← hw3]; exact (Below.refl _ w2).alloc (Nat.le_refl _) _
  have hx3 : w3.heap[w2.heap.size]? = some (.cells #[.slice none 0 0, .int .i64 0, .int .i64 0] 34) := by rw [← hw3]; exact heap_alloc_new w2 _
  have g1 := (hA3.block _ (Nat.lt_of_lt_of_le (lt_of_block hx1) hA2.size)).trans ((hA2.block _ (lt_of_block hx1)).trans hx1)
  have g2 := (hA3.block _ (lt_of_block hx2)).trans hx2
  have hAA : Below w.heap.size w w3 := hA.trans ((hA2.mono hA.size).trans (hA3.mono (Nat.le_trans hA.size hA2.size)))
  have HQ : Hid (∀ u, Below w3.heap.size w3 u → Below w.heap.size w u ∧ (u.cell? ⟨w.heap.size, 0, none⟩ = some (.int .i64 f) ∧ u.cell? ⟨w.heap.size, 1, none⟩ = some (.int .i64 wi) ∧ u.cell? ⟨w.heap.size, 2, none⟩ = some (.int .i64 lo) ∧ u.cell? ⟨w.heap.size, 3, none⟩ = some (.int .i64 ag)) ∧ (u.cell? ⟨w1.heap.size, 0, none⟩ = some (.slice va L0 vc) ∧ u.cell? ⟨w1.heap.size, 1, none⟩ = some (.int .i64 lk) ∧ u.cell? ⟨w1.heap.size, 2, none⟩ = some (.int .i64 ch)) ∧ u.heap[w2.heap.size]? = some (.cells #[.slice none 0 0, .int .i64 0, .int .i64 0] 34)) :=
    Lib.hid (fun u hu => ⟨hAA.trans (hu.mono hAA.size), box4_of ((hu.block _ (lt_of_block g1)).trans g1), box3_of ((hu.block _ (lt_of_block g2)).trans g2), (hu.block _ (lt_of_block hx3)).trans hx3⟩)
  -- the result, once it is laid
  have HFIN : Hid (∀ (u : World) (a : Option Addr) (m c : Nat) (lk' ch' : Int) (l' : List Int), Below w3.heap.size w3 u → ((Value.slice a m c = .slice va L0 vc ∧ IsTm w (.slice a m c) l') ∨ IsOwn 2 1 w3.heap.size u (.slice a m c) l'.length (tms l') ∨ (IsTm u (.slice a m c) l' ∧ ∀ b off, a = some ⟨b, off, none⟩ → w3.heap.size ≤ b)) → ∀ wz, wz = (((u.setCell ⟨w2.heap.size, 0, none⟩ (.slice a m c)).setCell ⟨w2.heap.size, 1, none⟩ (.int .i64 lk')).setCell ⟨w2.heap.size, 2, none⟩ (.int .i64 ch')) →
      (loadVar 34 ⟨w2.heap.size, 0, none⟩).run Try.prog wz = .ok (.agg #[.slice a m c, .int .i64 lk', .int .i64 ch']) wz ∧ IsTm wz (.slice a m c) l' ∧ Below w.heap.size w wz ∧ FarSl (.slice a m c) (.slice va L0 vc) w.heap.size) := Lib.hid (by
    intro u a m c lk' ch' l' hu hown wz hwz
    have y2 := (hu.block _ (lt_of_block hx3)).trans hx3
    have r5 := set3_of y2 (.slice a m c) (.int .i64 lk') (.int .i64 ch')
    have hO5 := only3 (w := u) (b := w2.heap.size) (.slice a m c) (.int .i64 lk') (.int .i64 ch')
    rw [← hwz] at r5 hO5
    obtain ⟨n0, n1, n2⟩ := box3_of r5
    have hl := lt_of_block hx3
    have h1 := hA.size
    have h2 := hA2.size
    have hbel : Below w.heap.size w wz := (hAA.trans (hu.mono hAA.size)).trans (hO5.toBelow (fun k hk => by simp at hk; omega) (Nat.le_trans hAA.size hu.size))
    have hq : FarSl (.slice a m c) (.slice va L0 vc) w.heap.size := by
      rcases hown with h | h | h
      · exact .inl h.1
      · exact .inr ⟨a, m, c, rfl, fun b off e => Nat.le_trans hAA.size (own_far23 h b off e)⟩
      · exact .inr ⟨a, m, c, rfl, fun b off e => Nat.le_trans hAA.size (h.2 b off e)⟩
    refine ⟨load3 n0 n1 n2 Try.underlying34 Try.szRSt, ?_, hbel, hq⟩
    rcases hown with ⟨-, h⟩ | ⟨gg, hgg, hr⟩ | ⟨⟨a', cap', e, hc, hcell⟩, hfar⟩
    · exact h.below hbel
    · exact IsOwn.tm (base := gg) ⟨gg, Nat.le_refl _, hr.other hO5 (by simp; omega)⟩
    · refine ⟨a', cap', e, hc, Lib.hid fun j hj => ?_⟩
      obtain ⟨b, off, e0, hb1, hb2⟩ := hcell.out j hj
      have ha : a = a' := by injection e
      have := hfar b off (by rw [ha, e0])
      exact ⟨b, off, e0, Nat.lt_of_lt_of_le hb1 hO5.size, (hO5.cell (p := ⟨b, off + j, none⟩) hb1 (by simp; omega)).trans hb2⟩)
  obtain ⟨-, p4, q3, -⟩ := HQ.out w3 (Below.refl _ _)
  obtain ⟨p0, p1, p2, p3⟩ := p4
  obtain ⟨q0, q1, q2⟩ := q3
  clear hA hA2 hA3 hx1 hx2 hx3 g1 g2 hAA
  have HR3 := Lib.hid (Below.refl w3.heap.size w3)
  obtain ⟨bad, hbad⟩ : ∃ z, (!(ok && (rs && tn))) = z := ⟨_, rfl⟩
  have HBAD := Lib.hid hbad
  clear hbad
  go_enter Try.func17, Try.ntmps17
  go_upto_region 1 with fail
  go_cut [29] from 17 to 29 (fun t29 wx => t29 = .bool bad ∧ Hid (Below w3.heap.size w3 wx))
  case first =>
    cases ok
    · go_wp2_with fail
      refine (HCK.out _).mono ?_
      rintro e u1 ⟨rfl, hb⟩
      have HU := Lib.hid (HR3.out.trans (hb.mono HR3.out.size))
      clear hb
      go_wp2_with fail
      all_goals (go_meet; exact ⟨by rw [← HBAD.out]; simp, HU⟩)
    go_wp2_with fail
    refine (HCK.out _).mono ?_
    rintro e u1 ⟨rfl, hb⟩
    have HU := Lib.hid (HR3.out.trans (hb.mono HR3.out.size))
    clear hb p0 p1 p2 p3 q0 q1 q2
    obtain ⟨hbw, p4, q3, -⟩ := HQ.out u1 HU.out
    obtain ⟨p0, p1, p2, p3⟩ := p4
    obtain ⟨q0, q1, q2⟩ := q3
    have HRu := Lib.hid (HRT.out u1 hbw)
    clear hbw
    go_wp2_with fail
    refine (HRu.out).mono ?_
    rintro e u2 ⟨rfl, hb⟩
    have HU2 := Lib.hid (HU.out.trans (hb.mono HU.out.size))
    clear hb p0 p1 p2 p3 q0 q1 q2
    cases rs
    · go_wp2_with fail
      all_goals (go_meet; exact ⟨by rw [← HBAD.out]; simp, HU2⟩)
    · go_wp2_with fail
      refine (HTM.out _).mono ?_
      rintro e u3 ⟨rfl, rfl⟩
      go_wp2_with fail
      all_goals (go_meet; exact ⟨by rw [← HBAD.out]; simp, HU2⟩)
  case rest =>
    revert wc
    intro wA hcut
    obtain ⟨rfl, HU⟩ := hcut
    clear p0 p1 p2 p3 q0 q1 q2
    obtain ⟨hbw, p4, q3, y2⟩ := HQ.out _ HU.out
    obtain ⟨p0, p1, p2, p3⟩ := p4
    obtain ⟨q0, q1, q2⟩ := q3
    have HBW := Lib.hid hbw
    have HY2 := Lib.hid y2
    clear hbw y2
    cases bad
    · obtain ⟨rfl, rfl, rfl⟩ : ok = true ∧ rs = true ∧ tn = true := by have h := HBAD.out; cases ok <;> cases rs <;> cases tn <;> simp at h ⊢
      obtain ⟨hok, hrs, htn⟩ := HOK.out
      have hri := HRI.out hrs
      have hti := HTI.out htn
      have hci := Mt.isT_iff.1 hri.2.2.1
      have hlki : -1 ≤ lk ∧ lk ≤ 9007199254740991 := by
        rcases hri.2.2.2.2 with h | h
        · omega
        · rw [Mt.isT_iff] at h; omega
      have hgood : (true && (true && true)) = true := rfl
      have hwr1 : wrap64 (now - ch) = now - ch := by unfold wrap64; omega
      have hwr2 : wrap64 (now - lk) = now - lk := by unfold wrap64; omega
      have HWR := Lib.hid (And.intro hwr1 hwr2)
      have HAG : Hid (0 ≤ ag ∧ 0 ≤ wi ∧ 0 ≤ f ∧ f ≤ 100) := Lib.hid (by
        obtain ⟨⟨a, b⟩, c, d, e⟩ := HOI.out hok
        rw [Mt.isT_iff] at c d e
        exact ⟨e.1, c.1, a, b⟩)
      have HFL : Hid (∀ t ∈ l, Mt.isT t = true) := Lib.hid hri.2.2.2.1
      have HL100 : Hid (l.length ≤ 100) := Lib.hid hri.1
      have HPW : Hid (l.Pairwise (· ≤ ·)) := Lib.hid hri.2.1
      have HNOW := Lib.hid hti
      clear hok hrs htn hri hti hci hlki hwr1 hwr2
      have HFk : Hid (∀ (lk' ch' : Int), (loadVar 34 ⟨w2.heap.size, 0, none⟩).run Try.prog (((wA.setCell ⟨w2.heap.size, 0, none⟩ (.slice va L0 vc)).setCell ⟨w2.heap.size, 1, none⟩ (.int .i64 lk')).setCell ⟨w2.heap.size, 2, none⟩ (.int .i64 ch')) = .ok (.agg #[.slice va L0 vc, .int .i64 lk', .int .i64 ch']) _ ∧ IsTm _ (.slice va L0 vc) l ∧ Below w.heap.size w _ ∧ FarSl (.slice va L0 vc) (.slice va L0 vc) w.heap.size) := Lib.hid (fun lk' ch' => HFIN.out wA va L0 vc lk' ch' l HU.out (.inl ⟨rfl, HV.out⟩) _ rfl)
      go_upto_region 3 with fail
      go_cut [47] from 31 to 47 (fun t47 wx => t47 = .bool lz ∧ wx = wA)
      case first =>
        obtain ⟨-, hwr2⟩ := HWR.out
        obtain ⟨zf, hzf⟩ : ∃ z, decide (now - lk < lo) = z := ⟨_, rfl⟩
        have HLB2 : Hid (lz = (!decide (lk = -1) && (decide (lo = 0) || zf))) := Lib.hid (by rw [HLB.out, hzf])
        by_cases hk : lk = -1
        · have hz : lz = false := by rw [HLB2.out, decide_eq_true hk]; rfl
          subst hz
          subst hk
          go_wp2_with fail
          all_goals (go_meet; exact ⟨rfl, rfl⟩)
        · have k1 : (lk == -1) = false := by simpa using hk
          have k2 : (lk != -1) = true := by simpa using hk
          by_cases h0 : lo = 0
          · have hz : lz = true := by rw [HLB2.out, decide_eq_false hk, decide_eq_true h0]; rfl
            subst hz
            subst h0
            clear hk
            go_wp2_with fail
            all_goals (go_meet; exact ⟨rfl, rfl⟩)
          · have hz : lz = zf := by rw [HLB2.out, decide_eq_false hk, decide_eq_false h0]; rfl
            have m1 : (lo == 0) = false := by simpa using h0
            subst hz
            clear hk h0
            go_wp2_with fail
            all_goals (go_meet; exact ⟨rfl, rfl⟩)
      case rest =>
        obtain ⟨rfl, hcw⟩ := hcut
        obtain rfl := hcw.symm
        cases lz
        · cases right
          · have HT1 := Lib.hid (HT.out.symm.trans (H2.out hgood rfl))
            obtain ⟨q, hq⟩ : ∃ q, Mt.keepB ⟨f, wi, lo, ag⟩ ⟨l, lk, ch⟩ now = q := ⟨_, rfl⟩
            have HCQ : Hid (Mt.countL ⟨f, wi, lo, ag⟩ ⟨l, lk, ch⟩ now = l.filter q) := Lib.hid (by rw [← hq]; exact HCE.out HAG.out.2.1)
            have HKQ : Hid (∀ x, q x = (decide (lk = -1) && (decide (wi = 0) || decide (now - x < wi)))) := Lib.hid (fun x => by rw [← hq]; rfl)
            have HIT : Hid (∀ x ∈ l, wrap64 (now - x) = now - x) := Lib.hid (fun x hx => by
              have h1 := HNOW.out
              have h2 := Mt.isT_iff.1 (HFL.out x hx)
              unfold wrap64; omega)
            have HRA := Lib.hid HU.out
            clear hq
            go_wp2_with fail
            go_loopw [10, 69] (fun sv kv wr => ∃ (k : Nat) (a : Option Addr) (m c : Nat), k ≤ L0 ∧ kv = .int .i64 (k : Int) ∧ sv = .slice a m c ∧ Hid (IsOwn 2 1 w3.heap.size wr (.slice a m c) ((l.take k).filter q).length (tms ((l.take k).filter q))) ∧ Hid (Below w3.heap.size w3 wr)) (fun _ kv _ => L0 - (intOf kv).toNat)
            case atStart => exact ⟨0, none, 0, 0, Nat.zero_le _, rfl, rfl, Lib.hid (IsOwn.nil _ _ _ _), HRA⟩
            case round =>
              obtain ⟨k, a, m, c, hk, rfl, rfl, HO, HB⟩ := hrel
              obtain ⟨rfl⟩ : m = ((l.take k).filter q).length := by
                obtain ⟨_, _, e⟩ := HO.out.form
                injection e
              clear p0 p1 p2 p3 q0 q1 q2
              obtain ⟨hbw, p4, q3, -⟩ := HQ.out wr HB.out
              obtain ⟨p0, p1, p2, p3⟩ := p4
              obtain ⟨q0, q1, q2⟩ := q3
              by_cases hlt : k < L0
              · have hkl : k < l.length := by rw [HL0.out]; exact hlt
                obtain ⟨va', vc', e9, -, hcell⟩ := HV.out
                obtain ⟨rfl, rfl⟩ : va = va' ∧ vc = vc' := by injection e9 with e1 e2 e3; exact ⟨e1, e3⟩
                obtain ⟨bb, off, rfl, hb1, hc1⟩ := hcell.out k hkl
                have x0 := (hbw.cell (p := ⟨bb, off + k, none⟩) hb1).trans hc1
                have HWX := HIT.out _ (List.getElem_mem hkl)
                have HFS := Lib.hid (Mt.filter_step q hkl)
                have HLE : Hid (((l.take k).filter q).length ≤ 1000) := Lib.hid (by have h1 := List.length_filter_le q (l.take k); rw [List.length_take] at h1; have := HL100.out; omega)
                obtain ⟨x, hx⟩ : ∃ x, l[k] = x := ⟨_, rfl⟩
                rw [hx] at x0 HWX HFS
                have HPU := Lib.hid (own_pushT HO.out HB.out.size x (by have := HLE.out; omega))
                obtain ⟨X, hX⟩ : ∃ X, (l.take k).filter q = X := ⟨_, rfl⟩
                rw [hX] at HO HFS HPU
                rw [hX]
                obtain ⟨m, hm⟩ : ∃ m, X.length = m := ⟨_, rfl⟩
                have HXM := Lib.hid hm
                rw [hm] at HPU ⊢
                have d1 : decide ((k : Int) < (L0 : Int)) = true := decide_eq_true (by omega)
                have d2 : decide (k < L0) = true := decide_eq_true hlt
                have k0 : (0 : Int) ≤ (k : Int) := by omega
                have k1 : (k : Int) < (L0 : Int) := by omega
                have wk : wrap64 ((k : Int) + 1) = ((k + 1 : Nat) : Int) := by unfold wrap64; omega
                obtain ⟨zq, hzq⟩ : ∃ z, q x = z := ⟨_, rfl⟩
                have HZQ : Hid (zq = (decide (lk = -1) && (decide (wi = 0) || decide (now - x < wi)))) := Lib.hid (by rw [← hzq]; exact HKQ.out x)
                rw [hzq] at HFS
                clear hbw hb1 hc1 hx hX hm hzq hkl hcell
                go_upto_region 13 with fail
                go_cut [69, 88] from 69 to 93 (fun t69 t88 wx => t69 = .int .i64 (k : Int) ∧ t88 = .bool zq ∧ wx = wr)
                case first =>
                  as_aux_lemma =>
                    obtain ⟨zf, hzf⟩ : ∃ z, decide (now - x < wi) = z := ⟨_, rfl⟩
                    have hzz := HZQ.out
                    rw [hzf] at hzz
                    by_cases hk1 : lk = -1
                    · by_cases hw0 : wi = 0
                      · have hz : zq = true := by rw [hzz, decide_eq_true hk1, decide_eq_true hw0]; rfl
                        subst hz
                        subst hk1
                        subst hw0
                        clear hzz
                        go_wp2_with fail
                        all_goals (go_meet; exact ⟨rfl, rfl, rfl⟩)
                      · have hz : zq = zf := by rw [hzz, decide_eq_true hk1, decide_eq_false hw0]; rfl
                        have m1 : (wi == 0) = false := by simpa using hw0
                        subst hz
                        subst hk1
                        clear hzz hw0
                        go_wp2_with fail
                        all_goals (go_meet; exact ⟨rfl, rfl, rfl⟩)
                    · have hz : zq = false := by rw [hzz, decide_eq_false hk1]; rfl
                      have n1 : (lk == -1) = false := by simpa using hk1
                      subst hz
                      clear hzz hk1
                      go_wp2_with fail
                      all_goals (go_meet; exact ⟨rfl, rfl, rfl⟩)
                case rest =>
                  obtain ⟨rfl, rfl, hcw⟩ := hcut
                  obtain rfl := hcw.symm
                  as_aux_lemma =>
                    cases zq
                    · go_wp2_with fail
                      go_roundw
                      case rel =>
                        have h1 := HFS.out
                        rw [if_neg (by decide)] at h1
                        refine ⟨k + 1, a, m, c, by omega, by first | rfl | go_num, rfl, Lib.hid ?_, HB⟩
                        rw [h1]; have := HO.out; rwa [HXM.out] at this ⊢
                      case measure => exact meas_step hlt
                    · obtain ⟨a', c', w', hrun, hown, hb'⟩ := HPU.out
                      have HOW' := Lib.hid hown
                      have HB' := Lib.hid (HB.out.trans hb')
                      clear hown hb'
                      go_wp2_with (refine wpList_append_run rfl (.tmp 89) (.tmp 91) 24 24 rfl (.slice a m c) (.slice (some ⟨wr.heap.size, 0, none⟩) 1 1) rfl rfl hrun ?_; clear hrun)
                      go_roundw
                      case rel =>
                        have h1 := HFS.out
                        rw [if_pos rfl] at h1
                        refine ⟨k + 1, a', m + 1, c', by omega, by first | rfl | go_num, rfl, Lib.hid ?_, HB'⟩
                        rw [h1]; exact HOW'.out
                      case measure => exact meas_step hlt
              · obtain rfl : k = L0 := by omega
                have d1 : decide ((k : Int) < (k : Int)) = false := decide_eq_false (by omega)
                have d2 : decide (k < k) = false := decide_eq_false (by omega)
                have htk : l.take k = l := List.take_of_length_le (by rw [HL0.out]; exact Nat.le_refl _)
                rw [htk] at HO
                rw [htk]
                obtain ⟨C, hC⟩ : ∃ C, l.filter q = C := ⟨_, rfl⟩
                rw [hC] at HO HCQ
                rw [hC]
                have HCL : Hid (C.length ≤ 100) := Lib.hid (by rw [← hC]; exact Nat.le_trans (List.length_filter_le _ _) HL100.out)
                clear htk hC hbw
                as_aux_lemma =>
                  have HCT := Lib.hid HO.out.tm
                  obtain ⟨N, hN⟩ : ∃ N, C.length = N := ⟨_, rfl⟩
                  have HCN := Lib.hid hN
                  rw [hN]
                  have HCTN : Hid (IsTm wr (.slice a N c) C) := Lib.hid (by rw [← hN]; exact HCT.out)
                  clear hN p0 p1 p2 p3 q0 q1 q2 HCT
                  go_wp2_with fail
                  go_loopw [13, 14, 96] (fun av bv kv wx => ∃ (k : Nat) (a1 : Option Addr) (m1 c1 : Nat) (a2 : Option Addr) (m2 c2 : Nat), k ≤ N ∧ kv = .int .i64 (k : Int) ∧ av = .slice a1 m1 c1 ∧ bv = .slice a2 m2 c2 ∧ Hid (Two wr.heap.size wx (.slice a1 m1 c1) (.slice a2 m2 c2) ((C.take k).filter (fun t => decide (t < now))) ((C.take k).filter (fun t => !decide (t < now)))) ∧ Hid (Below wr.heap.size wr wx)) (fun _ _ kv _ => N - (intOf kv).toNat)
                  case atStart => exact ⟨0, none, 0, 0, none, 0, 0, Nat.zero_le _, rfl, rfl, rfl, Lib.hid (Two.nil _ _), Lib.hid (Below.refl _ _)⟩
                  case round =>
                    obtain ⟨j, a1, m1, c1, a2, m2, c2, hj, rfl, rfl, rfl, HTW, HBX⟩ := hrel
                    obtain ⟨rfl⟩ : m1 = ((C.take j).filter (fun t => decide (t < now))).length := by
                      obtain ⟨_, _, e⟩ := HTW.out.own.form
                      injection e
                    obtain ⟨rfl⟩ : m2 = ((C.take j).filter (fun t => !decide (t < now))).length := by
                      obtain ⟨_, _, e⟩ := HTW.out.swap.own.form
                      injection e
                    have HLA : Hid (((C.take j).filter (fun t => decide (t < now))).length ≤ 100 ∧ ((C.take j).filter (fun t => !decide (t < now))).length ≤ 100) := Lib.hid (by
                      have h1 := List.length_filter_le (fun t => decide (t < now)) (C.take j)
                      have h2 := List.length_filter_le (fun t => !decide (t < now)) (C.take j)
                      rw [List.length_take] at h1 h2
                      have := HCL.out
                      omega)
                    by_cases hlt2 : j < N
                    · have hjl : j < C.length := by rw [HCN.out]; exact hlt2
                      obtain ⟨va', vc', e9, -, hcell⟩ := HCTN.out
                      obtain ⟨rfl, rfl⟩ : a = va' ∧ c = vc' := by injection e9 with e1 e2 e3; exact ⟨e1, e3⟩
                      obtain ⟨bb, off, rfl, hb1, hc1⟩ := hcell.out j hjl
                      have x0 := (HBX.out.cell (p := ⟨bb, off + j, none⟩) hb1).trans hc1
                      have HF1 := Lib.hid (Mt.filter_step (fun t => decide (t < now)) hjl)
                      have HF2 := Lib.hid (Mt.filter_step (fun t => !decide (t < now)) hjl)
                      obtain ⟨x, hx⟩ : ∃ x, C[j] = x := ⟨_, rfl⟩
                      rw [hx] at x0 HF1 HF2
                      have HP1 := Lib.hid (HTW.out.push HBX.out.size x (by have := HLA.out.1; omega))
                      have HP2 := Lib.hid (HTW.out.swap.push HBX.out.size x (by have := HLA.out.2; omega))
                      obtain ⟨Try, hTry⟩ : ∃ X, (C.take j).filter (fun t => decide (t < now)) = X := ⟨_, rfl⟩
                      obtain ⟨XB, hXB⟩ : ∃ X, (C.take j).filter (fun t => !decide (t < now)) = X := ⟨_, rfl⟩
                      rw [hTry, hXB] at HP1 HP2 HTW
                      rw [hTry] at HF1
                      rw [hXB] at HF2
                      rw [hTry, hXB]
                      obtain ⟨n1, hn1⟩ : ∃ n, Try.length = n := ⟨_, rfl⟩
                      obtain ⟨n2, hn2⟩ : ∃ n, XB.length = n := ⟨_, rfl⟩
                      rw [hn1, hn2] at HP1 HP2 HTW
                      rw [hn1, hn2]
                      have HNN := Lib.hid (And.intro hn1 hn2)
                      have d1 : decide ((j : Int) < (N : Int)) = true := decide_eq_true (by omega)
                      have d2 : decide (j < N) = true := decide_eq_true hlt2
                      have k0 : (0 : Int) ≤ (j : Int) := by omega
                      have k1 : (j : Int) < (N : Int) := by omega
                      have hN100 : N ≤ 100 := by have := HCL.out; have := HCN.out; omega
                      have wk : wrap64 ((j : Int) + 1) = ((j + 1 : Nat) : Int) := by unfold wrap64; omega
                      clear hN100
                      obtain ⟨z, hz⟩ : ∃ z, decide (x < now) = z := ⟨_, rfl⟩
                      simp only [hz] at HF1 HF2
                      clear hb1 hc1 hx hTry hXB hn1 hn2 hjl hcell
                      as_aux_lemma =>
                        cases z
                        · obtain ⟨a', c', w', hrun, htw, hb'⟩ := HP2.out
                          have HTW' := Lib.hid htw.swap
                          have HB' := Lib.hid (HBX.out.trans hb')
                          clear htw hb'
                          go_wp2_with (refine wpList_append_run rfl (.tmp 107) (.tmp 109) 24 24 rfl (.slice a2 n2 c2) (.slice (some ⟨wr.heap.size, 0, none⟩) 1 1) rfl rfl hrun ?_; clear hrun)
                          go_roundw
                          case rel =>
                            have h1 := HF1.out
                            have h2 := HF2.out
                            rw [if_neg (by decide)] at h1
                            rw [if_pos (by rfl)] at h2
                            exact ⟨j + 1, a1, n1, c1, a', n2 + 1, c', by omega, by first | rfl | go_num, rfl, rfl, Lib.hid (by rw [h1, h2]; exact HTW'.out), HB'⟩
                          case measure => first | exact meas_step hlt2 | (rw [wk]; exact meas_step hlt2)
                        · obtain ⟨a', c', w', hrun, htw, hb'⟩ := HP1.out
                          have HTW' := Lib.hid htw
                          have HB' := Lib.hid (HBX.out.trans hb')
                          clear htw hb'
                          go_wp2_with (refine wpList_append_run rfl (.tmp 103) (.tmp 105) 24 24 rfl (.slice a1 n1 c1) (.slice (some ⟨wr.heap.size, 0, none⟩) 1 1) rfl rfl hrun ?_; clear hrun)
                          go_roundw
                          case rel =>
                            have h1 := HF1.out
                            have h2 := HF2.out
                            rw [if_pos (by rfl)] at h1
                            rw [if_neg (by decide)] at h2
                            exact ⟨j + 1, a', n1 + 1, c', a2, n2, c2, by omega, by first | rfl | go_num, rfl, rfl, Lib.hid (by rw [h1, h2]; exact HTW'.out), HB'⟩
                          case measure => first | exact meas_step hlt2 | (rw [wk]; exact meas_step hlt2)
                    · obtain rfl : j = N := by omega
                      as_aux_lemma =>
                        have d1 : decide ((j : Int) < (j : Int)) = false := decide_eq_false (by omega)
                        have d2 : decide (j < j) = false := decide_eq_false (by omega)
                        have htk : C.take j = C := List.take_of_length_le (by rw [HCN.out]; exact Nat.le_refl _)
                        rw [htk] at HTW HLA
                        rw [htk]
                        have htw0 := HTW.out.mono HB.out.size
                        have hbt := HB.out.trans (HBX.out.mono HB.out.size)
                        have hI1 : (Mt.aheadL C now ++ [now]) ++ Mt.behindL C now = Mt.insL C now := by unfold Mt.insL; simp
                        have hA1 : C.filter (fun t => decide (t < now)) = Mt.aheadL C now := rfl
                        have hB1 : C.filter (fun t => !decide (t < now)) = Mt.behindL C now := rfl
                        rw [hA1, hB1] at htw0 HLA
                        rw [hA1, hB1]
                        obtain ⟨a3, c3, u1, hrun1, htw1, hb1⟩ := htw0.push hbt.size now (by have := HLA.out.1; omega)
                        have hll : (Mt.aheadL C now ++ [now]).length = (Mt.aheadL C now).length + 1 := by simp
                        obtain ⟨a4, c4, u2, hrun2, hown2, hb2⟩ := own_catT htw1.own (Nat.le_trans hbt.size hb1.size) htw1.swap.own.tm (by rw [hll]; have := HLA.out; omega)
                        rw [hI1] at hown2
                        have hlen := congrArg List.length hI1
                        rw [List.length_append] at hlen
                        rw [hlen] at hrun2 hown2
                        have hIl : (Mt.insL C now).length ≤ 101 := by rw [Mt.insL_len]; have := HCL.out; omega
                        have HFLE : Hid (Mt.failL ⟨f, wi, lo, ag⟩ ⟨l, lk, ch⟩ now = if (decide (0 < f) && decide (f ≤ ((Mt.insL C now).length : Int))) = true then ⟨[], now, ch⟩ else ⟨Mt.lastL (Mt.insL C now), -1, ch⟩) := Lib.hid (by unfold Mt.failL; rw [HCQ.out])
                        have HU2 := Lib.hid (hbt.trans ((hb1.trans hb2).mono (Nat.le_refl _)))
                        generalize Mt.insL C now = I at *
                        have HOI := Lib.hid hown2
                        obtain ⟨NI, hNI⟩ : ∃ n, I.length = n := ⟨_, rfl⟩
                        have HNI := Lib.hid hNI
                        rw [hNI] at hrun2 hIl HFLE
                        obtain ⟨nA, hnA⟩ : ∃ n, (Mt.aheadL C now).length = n := ⟨_, rfl⟩
                        obtain ⟨nB, hnB⟩ : ∃ n, (Mt.behindL C now).length = n := ⟨_, rfl⟩
                        rw [hnA] at hrun1 hrun2
                        rw [hnB] at hrun2
                        rw [hnA, hnB]
                        clear htk htw0 hbt hI1 hA1 hB1 htw1 hb1 hll hown2 hb2 hlen hnA hnB hNI HTW HLA
                        go_upto_region 25 with (first
                          | (refine wpList_append_run rfl (.tmp 112) (.tmp 114) 24 24 rfl (.slice a1 nA c1) (.slice (some ⟨wr.heap.size, 0, none⟩) 1 1) rfl rfl hrun1 ?_; clear hrun1)
                          | (refine wpList_append_run rfl (.tmp 115) (.tmp 116) 24 24 rfl (.slice a3 (nA + 1) c3) (.slice a2 nB c2) rfl rfl hrun2 ?_; clear hrun2))
                        have HTI : Hid (IsTm u2 (.slice a4 NI c4) I ∧ ∀ b off, a4 = some ⟨b, off, none⟩ → w3.heap.size ≤ b) := Lib.hid (by rw [← HNI.out]; exact ⟨HOI.out.tm, HOI.out.far⟩)
                        have hcap : NI ≤ c4 := by
                          obtain ⟨_, _, e, h, _⟩ := HTI.out.1
                          injection e with e1 e2 e3
                          omega
                        obtain ⟨J, hJ⟩ : ∃ J, Mt.lastL I = J := ⟨_, rfl⟩
                        obtain ⟨NJ, hNJ⟩ : ∃ n, J.length = n := ⟨_, rfl⟩
                        have hNJ2 : NJ = NI - (NI - 100) := by rw [← hNJ, ← hJ, ← HNI.out]; unfold Mt.lastL; rw [List.length_drop]
                        rw [hJ] at HFLE
                        have HJJ := Lib.hid (And.intro hJ hNJ)
                        have HJ2 := Lib.hid hNJ2
                        obtain ⟨-, p4, q3, y2⟩ := HQ.out u2 HU2.out
                        obtain ⟨p0, p1, p2, p3⟩ := p4
                        obtain ⟨q0, q1, q2⟩ := q3
                        have HYU := Lib.hid y2
                        clear hJ hNJ hNJ2 y2
                        obtain ⟨zl, hzl⟩ : ∃ z, decide (100 < NI) = z := ⟨_, rfl⟩
                        have hzl2 : decide ((100 : Int) < (NI : Int)) = zl := by rw [← hzl]; exact decide_eq_decide.2 (by omega)
                        have HZL := Lib.hid hzl
                        go_upto_if 120 with fail
                        clear hzl hzl2
                        go_cut [10] from 121 to 122 (fun t10 wx => ∃ (a : Option Addr) (c : Nat), t10 = .slice a NJ c ∧ Hid (IsTm u2 (.slice a NJ c) J ∧ ∀ b off, a = some ⟨b, off, none⟩ → w3.heap.size ≤ b) ∧ wx = u2)
                        case first =>
                          by_cases h100 : NI ≤ 100
                          · have hj : J = I := by rw [← HJJ.out.1]; exact Mt.lastL_short (by rw [HNI.out]; exact h100)
                            have hn : NJ = NI := by have := HJ2.out; omega
                            have e2 : zl = false := by rw [← HZL.out]; exact decide_eq_false (by omega)
                            subst e2
                            have HRES : Hid (IsTm u2 (.slice a4 NJ c4) J ∧ ∀ b off, a4 = some ⟨b, off, none⟩ → w3.heap.size ≤ b) := Lib.hid (by rw [hj, hn]; exact HTI.out)
                            subst hn
                            clear hj h100
                            go_wp2_with fail
                            all_goals (go_meet; exact ⟨_, _, rfl, HRES, rfl⟩)
                          · have h101 : NI = 101 := by omega
                            have e2 : zl = true := by rw [← HZL.out]; exact decide_eq_true (by omega)
                            subst e2
                            have hn : NJ = NI - 1 := by have := HJ2.out; omega
                            obtain ⟨b4, o4, rfl, hb4⟩ : ∃ b4 o4, a4 = some ⟨b4, o4, none⟩ ∧ w3.heap.size ≤ b4 := by
                              obtain ⟨ht, hf⟩ := HTI.out
                              obtain ⟨a9, c9, e9, _, hcell⟩ := ht
                              obtain ⟨b2, off2, e8, _, _⟩ := hcell.out 0 (by rw [HNI.out]; omega)
                              injection e9 with e7
                              exact ⟨b2, off2, e7.trans e8, hf b2 off2 (e7.trans e8)⟩
                            have HRES : Hid (IsTm u2 (.slice (some ⟨b4, o4 + 1, none⟩) NJ (c4 - 1)) J ∧ ∀ b off, (some ⟨b4, o4 + 1, none⟩ : Option Addr) = some ⟨b, off, none⟩ → w3.heap.size ≤ b) := Lib.hid (by
                              have ht := HTI.out.1
                              have hnc : ¬ c4 = 1 := by omega
                              rw [← HNI.out] at ht
                              have hd := ht.drop (k := 1) (aK := some ⟨b4, o4 + 1, none⟩) (by rw [HNI.out]; omega) (by rw [if_neg hnc]; simp only [Option.map_some]; rw [add_off])
                              have hj : J = I.drop 1 := by rw [← HJJ.out.1]; unfold Mt.lastL; rw [HNI.out, h101]
                              rw [HNI.out] at hd
                              refine ⟨by rw [hj, hn]; exact hd, fun b off e => ?_⟩
                              injection e with e1
                              injection e1 with e2
                              omega)
                            have hge1 : 1 ≤ NI := by omega
                            have hge2 : (1 : Int) ≤ (NI : Int) := by omega
                            have hnc : ¬ c4 = 1 := by omega
                            rw [hn] at HRES
                            have HN1 := Lib.hid hn
                            clear hn h100 h101
                            go_wp2_with fail
                            all_goals (go_meet; exact ⟨_, _, by rw [HN1.out], by rw [HN1.out]; exact HRES, rfl⟩)
                        case rest =>
                          obtain ⟨aJ, cJ, rfl, HRES, hcw⟩ := hcut
                          obtain rfl := hcw.symm
                          obtain ⟨⟨y0, y1, y2'⟩, f0, f1, f2⟩ := box3F_of HYU.out
                          obtain ⟨z1, hz1⟩ : ∃ z, decide (f ≤ (NJ : Int)) = z := ⟨_, rfl⟩
                          have hag := HAG.out
                          have hzz : decide (f ≤ (NI : Int)) = z1 := by rw [← hz1]; refine decide_eq_decide.2 ?_; have := HJ2.out; omega
                          have HFZ : Hid (T = ((if (decide (0 < f) && z1) = true then (⟨[], now, ch⟩ : Mt.Ps) else ⟨J, -1, ch⟩), 1)) := Lib.hid (by rw [HT1.out, HFLE.out, hzz])
                          clear hzz
                          by_cases hf0 : f = 0
                          · have HTF : Hid (T = (⟨J, -1, ch⟩, 1)) := Lib.hid (by rw [HFZ.out, decide_eq_false (by rw [hf0]; decide), Bool.false_and, if_neg (by decide)])
                            have HF := Lib.hid (HFIN.out u2 aJ NJ cJ (-1) ch J HU2.out (.inr (.inr HRES.out)) _ rfl)
                            subst hf0
                            clear hag hz1
                            go_upto_region 29 with fail
                            go_cut [9] from 137 to 140 (fun t9 wx => t9 = .int .i64 1 ∧ wx = (((u2.setCell ⟨w2.heap.size, 0, none⟩ (.slice aJ NJ cJ)).setCell ⟨w2.heap.size, 1, none⟩ (.int .i64 (-1))).setCell ⟨w2.heap.size, 2, none⟩ (.int .i64 ch)))
                            case first =>
                              go_wp2_with fail
                              all_goals (go_meet; exact ⟨rfl, rfl⟩)
                            case rest =>
                              obtain ⟨rfl, rfl⟩ := hcut
                              obtain ⟨h1, h2, h3, h4⟩ := HF.out
                              first
                                | (rename_i hK; refine hK _ _ ?_; refine wp_ret ?_; exact post_cell2 rfl _ _ _ rfl rfl rfl h1 ⟨_, by rw [HTF.out]; rfl, by rw [HTF.out]; exact h2, h3, h4⟩)
                                | (rename_i hK hK2; refine hK _ _ ?_; refine wp_ret ?_; exact post_cell2 rfl _ _ _ rfl rfl rfl h1 ⟨_, by rw [HTF.out]; rfl, by rw [HTF.out]; exact h2, h3, h4⟩)
                                | (rename_i hK hK2 hK3; refine hK _ _ ?_; refine wp_ret ?_; exact post_cell2 rfl _ _ _ rfl rfl rfl h1 ⟨_, by rw [HTF.out]; rfl, by rw [HTF.out]; exact h2, h3, h4⟩)
                                | (refine wp_ret ?_; exact post_cell2 rfl _ _ _ rfl rfl rfl h1 ⟨_, by rw [HTF.out]; rfl, by rw [HTF.out]; exact h2, h3, h4⟩)
                          · have m1 : (f == 0) = false := by simpa using hf0
                            have m2 : (f != 0) = true := by simpa using hf0
                            have hfp : decide (0 < f) = true := decide_eq_true (Int.lt_iff_le_and_ne.2 ⟨hag.2.2.1, fun h => hf0 h.symm⟩)
                            clear hag hf0
                            cases z1
                            · have HTF : Hid (T = (⟨J, -1, ch⟩, 1)) := Lib.hid (by rw [HFZ.out, hfp]; rfl)
                              have HF := Lib.hid (HFIN.out u2 aJ NJ cJ (-1) ch J HU2.out (.inr (.inr HRES.out)) _ rfl)
                              clear hfp
                              go_upto_region 29 with fail
                              go_cut [9] from 137 to 140 (fun t9 wx => t9 = .int .i64 1 ∧ wx = (((u2.setCell ⟨w2.heap.size, 0, none⟩ (.slice aJ NJ cJ)).setCell ⟨w2.heap.size, 1, none⟩ (.int .i64 (-1))).setCell ⟨w2.heap.size, 2, none⟩ (.int .i64 ch)))
                              case first =>
                                go_wp2_with fail
                                all_goals (go_meet; exact ⟨rfl, rfl⟩)
                              case rest =>
                                obtain ⟨rfl, rfl⟩ := hcut
                                obtain ⟨h1, h2, h3, h4⟩ := HF.out
                                first
                                  | (rename_i hK; refine hK _ _ ?_; refine wp_ret ?_; exact post_cell2 rfl _ _ _ rfl rfl rfl h1 ⟨_, by rw [HTF.out]; rfl, by rw [HTF.out]; exact h2, h3, h4⟩)
                                  | (rename_i hK hK2; refine hK _ _ ?_; refine wp_ret ?_; exact post_cell2 rfl _ _ _ rfl rfl rfl h1 ⟨_, by rw [HTF.out]; rfl, by rw [HTF.out]; exact h2, h3, h4⟩)
                                  | (rename_i hK hK2 hK3; refine hK _ _ ?_; refine wp_ret ?_; exact post_cell2 rfl _ _ _ rfl rfl rfl h1 ⟨_, by rw [HTF.out]; rfl, by rw [HTF.out]; exact h2, h3, h4⟩)
                                  | (refine wp_ret ?_; exact post_cell2 rfl _ _ _ rfl rfl rfl h1 ⟨_, by rw [HTF.out]; rfl, by rw [HTF.out]; exact h2, h3, h4⟩)
                            · have HTF : Hid (T = (⟨[], now, ch⟩, 1)) := Lib.hid (by rw [HFZ.out, hfp]; rfl)
                              have HF := Lib.hid (HFIN.out u2 none 0 0 now ch [] HU2.out (.inr (.inl (IsOwn.nil _ _ _ _))) _ rfl)
                              clear hfp
                              go_upto_region 28 with fail
                              go_cut [9] from 133 to 136 (fun t9 wx => t9 = .int .i64 1 ∧ wx = (((u2.setCell ⟨w2.heap.size, 0, none⟩ (.slice none 0 0)).setCell ⟨w2.heap.size, 1, none⟩ (.int .i64 now)).setCell ⟨w2.heap.size, 2, none⟩ (.int .i64 ch)))
                              case first =>
                                go_wp2_with fail
                                all_goals (go_meet; exact ⟨rfl, rfl⟩)
                              case rest =>
                                obtain ⟨rfl, rfl⟩ := hcut
                                obtain ⟨h1, h2, h3, h4⟩ := HF.out
                                rename_i hK
                                refine hK _ _ ?_
                                refine wp_ret (then_ret23 ?_)
                                exact post_cell2 rfl _ _ _ rfl rfl rfl h1 ⟨_, by rw [HTF.out]; rfl, by rw [HTF.out]; exact h2, h3, h4⟩
          · have HSS : Hid ((decide (0 < ag) && decide (ag ≤ now - ch)) = sz) := Lib.hid HST.out.symm
            obtain ⟨hwr1, -⟩ := HWR.out
            have HE3 := Lib.hid (H3.out hgood rfl)
            have HE4 := Lib.hid (H4.out hgood rfl)
            go_upto_region 6 with fail
            go_cut [61] from 50 to 61 (fun t61 wx => t61 = .bool sz ∧ wx = wA)
            case first =>
              obtain ⟨zf, hzf⟩ : ∃ z, decide (ag ≤ now - ch) = z := ⟨_, rfl⟩
              have hss := HSS.out
              rw [hzf] at hss
              have hag := HAG.out.1
              by_cases h0 : ag = 0
              · have hz : sz = false := by rw [← hss, decide_eq_false (by omega)]; rfl
                subst hz
                subst h0
                clear hss hzf hag
                go_wp2_with fail
                all_goals (go_meet; exact ⟨rfl, rfl⟩)
              · have hz : sz = zf := by rw [← hss, decide_eq_true (by omega)]; rfl
                have m1 : (ag == 0) = false := by simpa using h0
                have m2 : (ag != 0) = true := by simpa using h0
                subst hz
                clear hss h0 hag
                go_wp2_with fail
                all_goals (go_meet; exact ⟨rfl, rfl⟩)
            case rest =>
              obtain ⟨rfl, hcw⟩ := hcut
              obtain rfl := hcw.symm
              obtain ⟨⟨y0, y1, y2'⟩, f0, f1, f2⟩ := box3F_of HY2.out
              cases sz
              · have HT1 := Lib.hid (HT.out.symm.trans (HE4.out rfl))
                have hF := HFIN.out wA none 0 0 (-1) ch [] HU.out (.inr (.inl (IsOwn.nil _ _ _ _))) _ rfl
                have HF := Lib.hid hF
                clear hF
                go_wp2_with fail
                obtain ⟨h1, h2, h3, h4⟩ := HF.out
                exact post_cell2 rfl _ _ _ rfl rfl rfl h1 ⟨_, by rw [HT1.out]; rfl, by rw [HT1.out]; exact h2, h3, h4⟩
              · have HT1 := Lib.hid (HT.out.symm.trans (HE3.out rfl))
                have HF := Lib.hid (HFk.out lk ch)
                go_wp2_with fail
                obtain ⟨h1, h2, h3, h4⟩ := HF.out
                exact post_cell2 rfl _ _ _ rfl rfl rfl h1 ⟨_, by rw [HT1.out]; rfl, by rw [HT1.out]; exact h2, h3, h4⟩
        · have hT1 := HT.out.symm.trans (H1.out hgood rfl)
          have HT1 := Lib.hid hT1
          have HF := Lib.hid (HFk.out lk ch)
          obtain ⟨⟨y0, y1, y2'⟩, f0, f1, f2⟩ := box3F_of HY2.out
          clear hT1
          go_wp2_with fail
          obtain ⟨h1, h2, h3, h4⟩ := HF.out
          exact post_cell2 rfl _ _ _ rfl rfl rfl h1 ⟨_, by rw [HT1.out]; rfl, by rw [HT1.out]; exact h2, h3, h4⟩
    · have hT0 := H0.out (by have h := HBAD.out; cases h9 : (ok && (rs && tn)) with
        | false => rfl
        | true => rw [h9] at h; cases h)
      have hT1 : T = (⟨l, lk, ch⟩, 1) := by rw [← HT.out]; exact hT0
      have HT1 := Lib.hid hT1
      clear hT0 hT1
      have hF := HFIN.out _ va L0 vc lk ch l HU.out (.inl ⟨rfl, HV.out⟩) _ rfl
      have HF := Lib.hid hF
      obtain ⟨⟨y0, y1, y2'⟩, f0, f1, f2⟩ := box3F_of HY2.out
      clear hF
      go_wp2_with fail
      generalize (((wA.setCell ⟨w2.heap.size, 0, none⟩ (.slice va L0 vc)).setCell ⟨w2.heap.size, 1, none⟩ (.int .i64 lk)).setCell ⟨w2.heap.size, 2, none⟩ (.int .i64 ch)) = wz at *
      obtain ⟨h1, h2, h3, h4⟩ := HF.out
      exact post_cell2 rfl _ _ _ rfl rfl rfl h1 ⟨_, by rw [HT1.out]; rfl, by rw [HT1.out]; exact h2, h3, h4⟩
end Go.Proofs.Ytcijjblcoelabaa
