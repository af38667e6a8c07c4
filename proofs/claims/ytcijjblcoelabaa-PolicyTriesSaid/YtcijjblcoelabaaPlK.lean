/-
  What comes of a try, by the program.
-/
import Derived.Test.YtcijjblcoelabaaPlJ
import Derived.Test.YtcijjblcoelabaaPlT
set_option linter.unusedVariables false
set_option linter.unusedSimpArgs false
namespace Go.Proofs.Ytcijjblcoelabaa
open Go.RowKit Go.Shelf

/-- What a state in memory of the call's own is. -/
def OwnSt (base : Nat) (u : World) (x : Value) (s : Mt.Ps) : Prop := ∃ a m c, x = stV (.slice a m c) s ∧ IsOwn 2 1 base u (.slice a m c) s.fails.length (tms s.fails)
theorem OwnSt.below {base : Nat} {w u : World} {x : Value} {s : Mt.Ps} (h : OwnSt base w x s) (hb : Below w.heap.size w u) : OwnSt base u x s := by
  obtain ⟨a, m, c, h1, h2⟩ := h
  exact ⟨a, m, c, h1, h2.below hb⟩
theorem OwnSt.parts {base : Nat} {w : World} {x : Value} {s : Mt.Ps} (h : OwnSt base w x s) : ∃ a c, x = stV (.slice a s.fails.length c) s ∧ IsTm w (.slice a s.fails.length c) s.fails := by
  obtain ⟨a, m, c, h1, h2⟩ := h
  obtain ⟨rfl⟩ : m = s.fails.length := by
    obtain ⟨_, _, e⟩ := h2.form
    injection e
  exact ⟨a, c, h1, h2.tm⟩
set_option maxRecDepth 100000 in
set_option maxHeartbeats 2000000 in
theorem try23_any {w : World} {v : Value} {s : Mt.Ps} (p : Mt.Po) (now : Int) (right : Bool) (hv : IsTm w v s.fails) (hn : s.fails.length ≤ 1000) :
    Calls Try.prog 16 #[poV p, stV v s, .int .i64 now, .bool right] w fun e w' => ∃ x, e = .returned (.tuple #[x, .int .i64 (Mt.tryL p s now right).2]) ∧ OwnSt w.heap.size w' x (Mt.tryL p s now right).1 ∧ Below w.heap.size w w' := by
  have HCK := Lib.hid (fun (u : World) => check23_any p u)
  have HRT := Lib.hid (fun (u : World) (hb : Below w.heap.size w u) => right23_any (s := s) (hv.below hb) (by omega))
  have HTM := Lib.hid (fun (u : World) => isTime_any now u)
  have HCP := Lib.hid (fun (u : World) (hb : Below w.heap.size w u) => copied23_any (s := s) (hv.below hb) (by omega))
  have HNEW := Lib.hid (fun (u : World) => new23_any s.changed u)
  obtain ⟨va, vc, rfl, -, -⟩ := id hv
  have HLK := Lib.hid (fun (u : World) (h1 : Mt.isT now = true) (h2 : s.locked = -1 ∨ Mt.isT s.locked = true) => isLocked23_any (v := .slice va s.fails.length vc) s p now u h1 h2 ⟨_, _, _, rfl⟩)
  have HFA := Lib.hid (fun (u : World) (hb : Below w.heap.size w u) (h1 : Mt.isT now = true) (h2 : Mt.rightB s = true) (h3 : Mt.okPo p = true) => failed23_any p now h1 h2 h3 (hv.below hb))
  have HRI := Lib.hid (Mt.rightB_iff (s := s)).1
  have HTI := Lib.hid (Mt.isT_iff (n := now)).1
  have HTC := Lib.hid (Mt.isT_iff (n := s.changed)).1
  have H0 := Lib.hid (Mt.try_bad (p := p) (s := s) (now := now) (right := right))
  have H1 := Lib.hid (Mt.try_locked (p := p) (s := s) (now := now) (right := right))
  have H2 := Lib.hid (Mt.try_fail (p := p) (s := s) (now := now))
  have H3 := Lib.hid (Mt.try_stale (p := p) (s := s) (now := now))
  have H4 := Lib.hid (Mt.try_good (p := p) (s := s) (now := now))
  have HST : Hid (Mt.staleB p s now = (decide (0 < p.age) && decide (p.age ≤ now - s.changed))) := Lib.hid rfl
  obtain ⟨ok, hok⟩ : ∃ z, Mt.okPo p = z := ⟨_, rfl⟩
  obtain ⟨rs, hrs⟩ : ∃ z, Mt.rightB s = z := ⟨_, rfl⟩
  obtain ⟨tn, htn⟩ : ∃ z, Mt.isT now = z := ⟨_, rfl⟩
  obtain ⟨lz, hlz⟩ : ∃ z, Mt.lockedB p s now = z := ⟨_, rfl⟩
  obtain ⟨sz, hsz⟩ : ∃ z, Mt.staleB p s now = z := ⟨_, rfl⟩
  rw [hok] at HCK
  rw [hrs] at HRT
  rw [htn] at HTM
  rw [hlz] at HLK
  rw [hok, hrs, htn] at H0 H1 H2 H3 H4
  rw [hlz] at H1 H2 H3 H4
  rw [hsz] at H3 H4
  have HOK := Lib.hid (And.intro hok (And.intro hrs (And.intro htn (And.intro hlz hsz))))
  obtain ⟨T, hT⟩ : ∃ T, Mt.tryL p s now right = T := ⟨_, rfl⟩
  have HT := Lib.hid hT
  rw [hT]
  clear hok hrs htn hlz hsz hT hv
  obtain ⟨l, lk, ch⟩ := s
  obtain ⟨f, wi, lo, ag⟩ := p
  simp only at hn HNEW HLK HRI HTC HST
  have HS : Hid (True) := Lib.hid trivial
  unfold stV poV at *
  simp only at HCK HRT HCP HNEW HLK HFA ⊢
  obtain ⟨L0, hL0⟩ : ∃ n, l.length = n := ⟨_, rfl⟩
  have HL0 := Lib.hid hL0
  rw [hL0] at HRT HCP HLK HFA hn ⊢
  clear hL0
  obtain ⟨w1, hw1⟩ : ∃ u, w.alloc (.cells #[.int .i64 f, .int .i64 wi, .int .i64 lo, .int .i64 ag] 23) = u := ⟨_, rfl⟩
  have hA : Below w.heap.size w w1 := by rw [← hw1]; exact (Below.refl _ w).alloc (Nat.le_refl _) _
  have hx1 : w1.heap[w.heap.size]? = some (.cells #[.int .i64 f, .int .i64 wi, .int .i64 lo, .int .i64 ag] 23) := by rw [← hw1]; exact heap_alloc_new w _
  obtain ⟨w2, hw2⟩ : ∃ u, w1.alloc (.cells #[.slice va L0 vc, .int .i64 lk, .int .i64 ch] 26) = u := ⟨_, rfl⟩
  have hA2 : Below w1.heap.size w1 w2 := by rw [← hw2]; exact (Below.refl _ w1).alloc (Nat.le_refl _) _
  have hx2 : w2.heap[w1.heap.size]? = some (.cells #[.slice va L0 vc, .int .i64 lk, .int .i64 ch] 26) := by rw [← hw2]; exact heap_alloc_new w1 _
  obtain ⟨w3, hw3⟩ : ∃ u, w2.alloc (.cells #[.slice none 0 0, .int .i64 0, .int .i64 0] 26) = u := ⟨_, rfl⟩
  have hA3 : Below w2.heap.size w2 w3 := by rw [← hw3]; exact (Below.refl _ w2).alloc (Nat.le_refl _) _
  have hx3 : w3.heap[w2.heap.size]? = some (.cells #[.slice none 0 0, .int .i64 0, .int .i64 0] 26) := by rw [← hw3]; exact heap_alloc_new w2 _
  have g1 := (hA3.block _ (Nat.lt_of_lt_of_le (lt_of_block hx1) hA2.size)).trans ((hA2.block _ (lt_of_block hx1)).trans hx1)
  have g2 := (hA3.block _ (lt_of_block hx2)).trans hx2
  have hAA : Below w.heap.size w w3 := hA.trans ((hA2.mono hA.size).trans (hA3.mono (Nat.le_trans hA.size hA2.size)))
  have HQ : Hid (∀ u, Below w3.heap.size w3 u → Below w.heap.size w u ∧ (u.cell? ⟨w.heap.size, 0, none⟩ = some (.int .i64 f) ∧ u.cell? ⟨w.heap.size, 1, none⟩ = some (.int .i64 wi) ∧ u.cell? ⟨w.heap.size, 2, none⟩ = some (.int .i64 lo) ∧ u.cell? ⟨w.heap.size, 3, none⟩ = some (.int .i64 ag)) ∧ (u.cell? ⟨w1.heap.size, 0, none⟩ = some (.slice va L0 vc) ∧ u.cell? ⟨w1.heap.size, 1, none⟩ = some (.int .i64 lk) ∧ u.cell? ⟨w1.heap.size, 2, none⟩ = some (.int .i64 ch)) ∧ u.heap[w2.heap.size]? = some (.cells #[.slice none 0 0, .int .i64 0, .int .i64 0] 26)) :=
    Lib.hid (fun u hu => ⟨hAA.trans (hu.mono hAA.size), box4_of ((hu.block _ (lt_of_block g1)).trans g1), box3_of ((hu.block _ (lt_of_block g2)).trans g2), (hu.block _ (lt_of_block hx3)).trans hx3⟩)
  have HSZ : Hid (w.heap.size ≤ w2.heap.size) := Lib.hid (Nat.le_trans hA.size hA2.size)
  -- the result, once it is laid
  have HFIN : Hid (∀ (u : World) (a : Option Addr) (m c : Nat) (lk' ch' : Int) (l' : List Int), Below w3.heap.size w3 u → IsOwn 2 1 w3.heap.size u (.slice a m c) l'.length (tms l') → ∀ wz, wz = (((u.setCell ⟨w2.heap.size, 0, none⟩ (.slice a m c)).setCell ⟨w2.heap.size, 1, none⟩ (.int .i64 lk')).setCell ⟨w2.heap.size, 2, none⟩ (.int .i64 ch')) →
      (loadVar 26 ⟨w2.heap.size, 0, none⟩).run Try.prog wz = .ok (.agg #[.slice a m c, .int .i64 lk', .int .i64 ch']) wz ∧ OwnSt w.heap.size wz (.agg #[.slice a m c, .int .i64 lk', .int .i64 ch']) ⟨l', lk', ch'⟩ ∧ Below w.heap.size w wz) := Lib.hid (by
    intro u a m c lk' ch' l' hu hown wz hwz
    have y2 := (hu.block _ (lt_of_block hx3)).trans hx3
    have r5 := set3_of y2 (.slice a m c) (.int .i64 lk') (.int .i64 ch')
    have hO5 := only3 (w := u) (b := w2.heap.size) (.slice a m c) (.int .i64 lk') (.int .i64 ch')
    rw [← hwz] at r5 hO5
    obtain ⟨n0, n1, n2⟩ := box3_of r5
    have hl := lt_of_block hx3
    have h1 := hA.size
    have h2 := hA2.size
    refine ⟨load3 n0 n1 n2 Try.underlying26 Try.szPSt, ⟨a, m, c, rfl, ?_⟩, (hAA.trans (hu.mono hAA.size)).trans (hO5.toBelow (fun k hk => by simp at hk; omega) (Nat.le_trans hAA.size hu.size))⟩
    obtain ⟨gg, hgg, hr⟩ := hown
    exact ⟨gg, by have := hA3.size; omega, hr.other hO5 (by simp; omega)⟩)
  obtain ⟨-, p4, q3, -⟩ := HQ.out w3 (Below.refl _ _)
  obtain ⟨p0, p1, p2, p3⟩ := p4
  obtain ⟨q0, q1, q2⟩ := q3
  clear hA hA2 hA3 hx1 hx2 hx3 g1 g2 hAA
  have HR3 := Lib.hid (Below.refl w3.heap.size w3)
  go_enter Try.func16, Try.ntmps16
  go_upto_region 1 with fail
  obtain ⟨bad, hbad⟩ : ∃ z, (!(ok && (rs && tn))) = z := ⟨_, rfl⟩
  have HBAD := Lib.hid hbad
  clear hbad
  go_cut [10] from 11 to 23 (fun t10 wx => t10 = .bool bad ∧ Hid (Below w3.heap.size w3 wx))
  case first =>
    cases ok
    · go_wp2_with fail
      refine (HCK.out _).mono ?_
      rintro e u1 ⟨rfl, hb⟩
      have HU := Lib.hid (HR3.out.trans (hb.mono HR3.out.size))
      clear hb
      go_wp2_with fail
      all_goals (go_meet; exact ⟨by rw [← HBAD.out]; simp, HU⟩)
    go_wp2_with fail
    refine (HCK.out _).mono ?_
    rintro e u1 ⟨rfl, hb⟩
    have HU := Lib.hid (HR3.out.trans (hb.mono HR3.out.size))
    clear hb p0 p1 p2 p3 q0 q1 q2
    obtain ⟨hbw, p4, q3, -⟩ := HQ.out u1 HU.out
    obtain ⟨p0, p1, p2, p3⟩ := p4
    obtain ⟨q0, q1, q2⟩ := q3
    have HRu := Lib.hid (HRT.out u1 hbw)
    clear hbw
    go_wp2_with fail
    refine (HRu.out).mono ?_
    rintro e u2 ⟨rfl, hb⟩
    have HU2 := Lib.hid (HU.out.trans (hb.mono HU.out.size))
    clear hb p0 p1 p2 p3 q0 q1 q2
    cases rs
    · go_wp2_with fail
      all_goals (go_meet; exact ⟨by rw [← HBAD.out]; simp, HU2⟩)
    · go_wp2_with fail
      refine (HTM.out _).mono ?_
      rintro e u3 ⟨rfl, rfl⟩
      go_wp2_with fail
      all_goals (go_meet; exact ⟨by rw [← HBAD.out]; simp, HU2⟩)
  case rest =>
    obtain ⟨rfl, HU⟩ := hcut
    clear p0 p1 p2 p3 q0 q1 q2
    obtain ⟨hbw, p4, q3, y2⟩ := HQ.out _ HU.out
    obtain ⟨p0, p1, p2, p3⟩ := p4
    obtain ⟨q0, q1, q2⟩ := q3
    have HBW := Lib.hid hbw
    have HCu := Lib.hid (HCP.out _ hbw)
    clear hbw y2
    cases bad
    · obtain ⟨rfl, rfl, rfl⟩ : ok = true ∧ rs = true ∧ tn = true := by have h := HBAD.out; cases ok <;> cases rs <;> cases tn <;> simp at h ⊢
      obtain ⟨hok, hrs, htn, hlz, hsz⟩ := HOK.out
      have hri := HRI.out hrs
      have hti := HTI.out htn
      have hci := HTC.out hri.2.2.1
      have HLu := Lib.hid (HLK.out wc htn hri.2.2.2.2)
      have hgood : (true && (true && true)) = true := rfl
      have hwr : wrap64 (now - ch) = now - ch := by unfold wrap64; omega
      have HWR := Lib.hid hwr
      have HSS : Hid ((decide (0 < ag) && decide (ag ≤ now - ch)) = sz) := Lib.hid (by rw [← HST.out]; exact hsz)
      clear hok hrs htn hlz hsz hri hti hci hwr
      go_wp2_with fail
      refine (HLu.out).mono ?_
      rintro e u3 ⟨rfl, hb⟩
      have HU3 : Hid (Below w3.heap.size w3 u3) := Lib.hid (HU.out.trans (hb.mono HU.out.size))
      clear hb p0 p1 p2 p3 q0 q1 q2 HCu
      obtain ⟨hbw, p4, q3, y2⟩ := HQ.out _ HU3.out
      obtain ⟨p0, p1, p2, p3⟩ := p4
      obtain ⟨q0, q1, q2⟩ := q3
      have HCu := Lib.hid (HCP.out _ hbw)
      have HFu := Lib.hid (HFA.out _ hbw HOK.out.2.2.1 HOK.out.2.1 HOK.out.1)
      clear hbw y2
      cases lz
      · cases right
        · have hT1 := HT.out.symm.trans (H2.out hgood rfl)
          have HT1 := Lib.hid hT1
          clear hT1
          go_wp2_with fail
          refine (HFu.out).mono ?_
          rintro e u4 ⟨a, m, c, rfl, hown, hb⟩
          have HU4 : Hid (Below w3.heap.size w3 u4) := Lib.hid (HU3.out.trans (hb.mono HU3.out.size))
          generalize hS : Mt.failL ⟨f, wi, lo, ag⟩ ⟨l, lk, ch⟩ now = S at *
          obtain ⟨l', lk', ch'⟩ := S
          simp only at hown ⊢
          have hF := HFIN.out u4 a m c lk' ch' l' HU4.out (hown.mono HU3.out.size) _ rfl
          have HF := Lib.hid hF
          obtain ⟨-, -, -, y2⟩ := HQ.out u4 HU4.out
          obtain ⟨⟨y0, y1, y2'⟩, f0, f1, f2⟩ := box3F_of y2
          have HS' := Lib.hid hS
          clear hF hown hb y2 p0 p1 p2 p3 q0 q1 q2 hS
          go_wp2_with fail
          generalize (((u4.setCell ⟨w2.heap.size, 0, none⟩ (.slice a m c)).setCell ⟨w2.heap.size, 1, none⟩ (.int .i64 lk')).setCell ⟨w2.heap.size, 2, none⟩ (.int .i64 ch')) = wz at *
          obtain ⟨h1, h2, h3⟩ := HF.out
          exact post_cell2 rfl _ _ _ rfl rfl rfl h1 ⟨_, by rw [HT1.out]; rfl, by rw [HT1.out]; exact h2, h3⟩
        · obtain ⟨z0, hz0⟩ : ∃ z, decide (0 < ag) = z := ⟨_, rfl⟩
          obtain ⟨z1, hz1⟩ : ∃ z, decide (ag ≤ now - ch) = z := ⟨_, rfl⟩
          have hss := HSS.out
          rw [hz0, hz1] at hss
          have hwr := HWR.out
          cases sz
          · have hT1 := HT.out.symm.trans (H4.out hgood rfl rfl)
            subst hT1
            have HNu := Lib.hid (HNEW.out u3)
            unfold Mt.newS at HNu
            simp only at HNu
            cases z0 <;> cases z1
            case true.true => cases hss
            all_goals
              clear hss
              go_wp2_with fail
              refine (HNu.out).mono ?_
              rintro e u4 ⟨rfl, hb⟩
              have HU4 : Hid (Below w3.heap.size w3 u4) := Lib.hid (HU3.out.trans (hb.mono HU3.out.size))
              have hF := HFIN.out u4 none 0 0 (-1) ch [] HU4.out (IsOwn.nil _ _ _ _) _ rfl
              have HF := Lib.hid hF
              obtain ⟨-, -, -, y2⟩ := HQ.out u4 HU4.out
              obtain ⟨⟨y0, y1, y2'⟩, f0, f1, f2⟩ := box3F_of y2
              clear hF hb y2 p0 p1 p2 p3 q0 q1 q2
              go_wp2_with fail
              generalize (((u4.setCell ⟨w2.heap.size, 0, none⟩ (.slice none 0 0)).setCell ⟨w2.heap.size, 1, none⟩ (.int .i64 (-1))).setCell ⟨w2.heap.size, 2, none⟩ (.int .i64 ch)) = wz at *
              obtain ⟨h1, h2, h3⟩ := HF.out
              exact post_cell2 rfl _ _ _ rfl rfl rfl h1 ⟨_, rfl, h2, h3⟩
          · have hT1 := HT.out.symm.trans (H3.out hgood rfl rfl)
            subst hT1
            obtain ⟨rfl, rfl⟩ : z0 = true ∧ z1 = true := by simpa using hss
            clear hss
            go_wp2_with fail
            refine (HCu.out).mono ?_
            rintro e u4 ⟨a, m, c, rfl, hown, hb⟩
            have HU4 : Hid (Below w3.heap.size w3 u4) := Lib.hid (HU3.out.trans (hb.mono HU3.out.size))
            have hF := HFIN.out u4 a m c lk ch l HU4.out (by rw [HL0.out]; exact hown.mono HU3.out.size) _ rfl
            have HF := Lib.hid hF
            obtain ⟨-, -, -, y2⟩ := HQ.out u4 HU4.out
            obtain ⟨⟨y0, y1, y2'⟩, f0, f1, f2⟩ := box3F_of y2
            clear hF hown hb y2 p0 p1 p2 p3 q0 q1 q2
            go_wp2_with fail
            generalize (((u4.setCell ⟨w2.heap.size, 0, none⟩ (.slice a m c)).setCell ⟨w2.heap.size, 1, none⟩ (.int .i64 lk)).setCell ⟨w2.heap.size, 2, none⟩ (.int .i64 ch)) = wz at *
            obtain ⟨h1, h2, h3⟩ := HF.out
            exact post_cell2 rfl _ _ _ rfl rfl rfl h1 ⟨_, rfl, h2, h3⟩
      · have hT1 := HT.out.symm.trans (H1.out hgood rfl)
        subst hT1
        go_wp2_with fail
        refine (HCu.out).mono ?_
        rintro e u4 ⟨a, m, c, rfl, hown, hb⟩
        have HU4 : Hid (Below w3.heap.size w3 u4) := Lib.hid (HU3.out.trans (hb.mono HU3.out.size))
        have hF := HFIN.out u4 a m c lk ch l HU4.out (by rw [HL0.out]; exact hown.mono HU3.out.size) _ rfl
        have HF := Lib.hid hF
        obtain ⟨-, -, -, y2⟩ := HQ.out u4 HU4.out
        obtain ⟨⟨y0, y1, y2'⟩, f0, f1, f2⟩ := box3F_of y2
        clear hF hown hb y2 p0 p1 p2 p3 q0 q1 q2
        go_wp2_with fail
        generalize (((u4.setCell ⟨w2.heap.size, 0, none⟩ (.slice a m c)).setCell ⟨w2.heap.size, 1, none⟩ (.int .i64 lk)).setCell ⟨w2.heap.size, 2, none⟩ (.int .i64 ch)) = wz at *
        obtain ⟨h1, h2, h3⟩ := HF.out
        exact post_cell2 rfl _ _ _ rfl rfl rfl h1 ⟨_, rfl, h2, h3⟩
    · have hT0 := H0.out (by have h := HBAD.out; cases h9 : (ok && (rs && tn)) with
        | false => rfl
        | true => rw [h9] at h; cases h)
      have hT1 : T = (⟨l, lk, ch⟩, 1) := by rw [← HT.out]; exact hT0
      subst hT1
      clear hT0
      go_wp2_with fail
      refine (HCu.out).mono ?_
      rintro e u4 ⟨a, m, c, rfl, hown, hb⟩
      have HU4 : Hid (Below w3.heap.size w3 u4) := Lib.hid (HU.out.trans (hb.mono HU.out.size))
      have hF := HFIN.out u4 a m c lk ch l HU4.out (by rw [HL0.out]; exact hown.mono HU.out.size) _ rfl
      have HF := Lib.hid hF
      obtain ⟨-, -, -, y2⟩ := HQ.out u4 HU4.out
      obtain ⟨⟨y0, y1, y2'⟩, f0, f1, f2⟩ := box3F_of y2
      clear hF hown hb y2 p0 p1 p2 p3 q0 q1 q2
      go_wp2_with fail
      generalize (((u4.setCell ⟨w2.heap.size, 0, none⟩ (.slice a m c)).setCell ⟨w2.heap.size, 1, none⟩ (.int .i64 lk)).setCell ⟨w2.heap.size, 2, none⟩ (.int .i64 ch)) = wz at *
      obtain ⟨h1, h2, h3⟩ := HF.out
      exact post_cell2 rfl _ _ _ rfl rfl rfl h1 ⟨_, rfl, h2, h3⟩
end Go.Proofs.Ytcijjblcoelabaa
