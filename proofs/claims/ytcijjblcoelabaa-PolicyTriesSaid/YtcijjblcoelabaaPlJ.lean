/-
  The last ones of failures; the state behind a failure.
-/
import Derived.Test.YtcijjblcoelabaaPlI
set_option linter.unusedVariables false
set_option linter.unusedSimpArgs false
namespace Go.Proofs.Ytcijjblcoelabaa
open Go.RowKit Go.Shelf

theorem IsTm.drop {w : World} {a aK : Option Addr} {cap k : Nat} {l : List Int} (h : IsTm w (.slice a l.length cap) l) (hk : k ≤ l.length) (ha : (if cap = k then a else Option.map (fun x => x.add k) a) = aK) : IsTm w (.slice aK (l.length - k) (cap - k)) (l.drop k) := by
  obtain ⟨a', cap', e, hc, hcell⟩ := h
  obtain ⟨rfl, rfl⟩ : a = a' ∧ cap = cap' := by simpa using e
  refine ⟨aK, cap - k, by rw [List.length_drop], by rw [List.length_drop]; omega, Lib.hid fun j hj => ?_⟩
  rw [List.length_drop] at hj
  obtain ⟨b, off, rfl, h1, h2⟩ := hcell.out (k + j) (by omega)
  rw [if_neg (by omega)] at ha
  refine ⟨b, off + k, ?_, h1, ?_⟩
  · rw [← ha]; simp only [Option.map_some]; rw [add_off]
  · rw [Nat.add_assoc, List.getElem_drop]; exact h2
set_option maxRecDepth 100000 in
theorem latest23_any {w : World} {v : Value} {l : List Int} (h : IsTm w v l) (hn : l.length ≤ 1000) :
    Calls Try.prog 64 #[v] w fun e w' => ∃ a n c, e = .returned (.slice a n c) ∧ IsOwn 2 1 w.heap.size w' (.slice a n c) (Mt.lastL l).length (tms (Mt.lastL l)) ∧ Below w.heap.size w w' := by
  have h0 := h
  obtain ⟨a, cap, rfl, hcap, -⟩ := h
  obtain ⟨k, hk⟩ : ∃ k, l.length - 100 = k := ⟨_, rfl⟩
  obtain ⟨aK, haK⟩ : ∃ aK, (if cap = k then a else Option.map (fun x => x.add k) a) = aK := ⟨_, rfl⟩
  have HC := Lib.hid (clone23_any (h0.drop (k := k) (by omega) haK) (by rw [List.length_drop]; omega))
  have e : l.drop k = Mt.lastL l := by unfold Mt.lastL; rw [hk]
  rw [e] at HC
  generalize Mt.lastL l = R at *
  generalize l.length = n at *
  clear h0 e
  have w1 : wrap64 ((n : Int) - 100) = (n : Int) - 100 := by unfold wrap64; omega
  have m1 : max (0 : Int) ((n : Int) - 100) = (k : Int) := by omega
  have k0 : (0 : Int) ≤ (k : Int) := by omega
  have k1 : (k : Int) ≤ (n : Int) := by omega
  have k2 : k ≤ n := by omega
  clear hk
  go_enter Try.func64, Try.ntmps64
  go_wp2_with fail
  refine (HC.out).mono ?_
  rintro e w2 ⟨a', m', c', rfl, how, hb⟩
  go_wp2_with fail
  all_goals (go_ret; exact ⟨_, _, _, rfl, how, hb⟩)
set_option maxRecDepth 100000 in
set_option maxHeartbeats 1000000 in
theorem failed23_any {w : World} {v : Value} {s : Mt.Ps} (p : Mt.Po) (now : Int) (hnow : Mt.isT now = true) (hs : Mt.rightB s = true) (hp : Mt.okPo p = true) (hv : IsTm w v s.fails) :
    Calls Try.prog 40 #[stV v s, poV p, .int .i64 now] w fun e w' => ∃ a n c, e = .returned (stV (.slice a n c) (Mt.failL p s now)) ∧ IsOwn 2 1 w.heap.size w' (.slice a n c) (Mt.failL p s now).fails.length (tms (Mt.failL p s now).fails) ∧ Below w.heap.size w w' := by
  rw [Mt.rightB_iff] at hs
  obtain ⟨hl100, hpw, hct, hall, hlk⟩ := hs
  rw [Mt.okPo_iff] at hp
  obtain ⟨⟨hf0, hf1⟩, -⟩ := hp
  have HNEW := Lib.hid (fun (u : World) => new23_any s.changed u)
  have HCO := Lib.hid (fun (u : World) (hb : Below w.heap.size w u) => counting23_any p now hnow hall (hv.below hb) (by omega))
  obtain ⟨C, hC⟩ : ∃ C, Mt.countL p s now = C := ⟨_, rfl⟩
  have hCl : C.length ≤ 100 := by rw [← hC]; exact Nat.le_trans (Mt.countL_len p s now) hl100
  have hCp : C.Pairwise (· ≤ ·) := by rw [← hC]; exact Mt.countL_pair hpw
  rw [hC] at HCO
  have HFL : Hid (Mt.failL p s now = if (decide (0 < p.fails) && decide (p.fails ≤ ((Mt.insL C now).length : Int))) = true then ⟨[], now, s.changed⟩ else ⟨Mt.lastL (Mt.insL C now), -1, s.changed⟩) := Lib.hid (by unfold Mt.failL; rw [hC])
  have hil := Mt.insL_len C now
  obtain ⟨ht1, ht2⟩ := Mt.rise_take hCp now
  have HIN : Hid (C.take (Mt.aheadL C now).length ++ now :: C.drop (Mt.aheadL C now).length = Mt.insL C now) := Lib.hid (by rw [ht1, ht2]; rfl)
  have hal : (Mt.aheadL C now).length ≤ C.length := by have := Mt.ahead_behind C now; omega
  have HCC := Lib.hid (And.intro hCl (And.intro hCp hal))
  obtain ⟨I, hI⟩ : ∃ I, Mt.insL C now = I := ⟨_, rfl⟩
  rw [hI] at HFL HIN hil
  obtain ⟨R, hR⟩ : ∃ R, Mt.failL p s now = R := ⟨_, rfl⟩
  rw [hR] at HFL ⊢
  obtain ⟨l, lk, ch⟩ := s
  obtain ⟨f, wi, lo, ag⟩ := p
  obtain ⟨va, vc, rfl, -, -⟩ := id hv
  simp only at hf0 hf1 HFL HNEW
  unfold stV poV at *
  simp only at HCO HNEW ⊢
  clear hC hI hR hCl hCp hall hpw hl100 hlk hct ht1 ht2 hv hal hnow
  have HIL := Lib.hid hil
  clear hil
  obtain ⟨L0, hL0⟩ : ∃ n, l.length = n := ⟨_, rfl⟩
  rw [hL0] at HCO ⊢
  clear hL0
  obtain ⟨w1, hw1⟩ : ∃ u, w.alloc (.cells #[.slice va L0 vc, .int .i64 lk, .int .i64 ch] 26) = u := ⟨_, rfl⟩
  have hA : Below w.heap.size w w1 := by rw [← hw1]; exact (Below.refl _ w).alloc (Nat.le_refl _) _
  have hx1 : w1.heap[w.heap.size]? = some (.cells #[.slice va L0 vc, .int .i64 lk, .int .i64 ch] 26) := by rw [← hw1]; exact heap_alloc_new w _
  obtain ⟨w2, hw2⟩ : ∃ u, w1.alloc (.cells #[.int .i64 f, .int .i64 wi, .int .i64 lo, .int .i64 ag] 23) = u := ⟨_, rfl⟩
  have hA2 : Below w1.heap.size w1 w2 := by rw [← hw2]; exact (Below.refl _ w1).alloc (Nat.le_refl _) _
  have hx2 : w2.heap[w1.heap.size]? = some (.cells #[.int .i64 f, .int .i64 wi, .int .i64 lo, .int .i64 ag] 23) := by rw [← hw2]; exact heap_alloc_new w1 _
  obtain ⟨w3, hw3⟩ : ∃ u, w2.alloc (.cells #[.slice none 0 0, .int .i64 0, .int .i64 0] 26) = u := ⟨_, rfl⟩
  have hA3 : Below w2.heap.size w2 w3 := by rw [← hw3]; exact (Below.refl _ w2).alloc (Nat.le_refl _) _
  have hx3 : w3.heap[w2.heap.size]? = some (.cells #[.slice none 0 0, .int .i64 0, .int .i64 0] 26) := by rw [← hw3]; exact heap_alloc_new w2 _
  have g1 := (hA3.block _ (Nat.lt_of_lt_of_le (lt_of_block hx1) hA2.size)).trans ((hA2.block _ (lt_of_block hx1)).trans hx1)
  have g2 := (hA3.block _ (lt_of_block hx2)).trans hx2
  have hAA : Below w.heap.size w w3 := hA.trans ((hA2.mono hA.size).trans (hA3.mono (Nat.le_trans hA.size hA2.size)))
  -- what stays in any world behind
  have HQ : Hid (∀ u, Below w3.heap.size w3 u → Below w.heap.size w u ∧ u.heap[w.heap.size]? = some (.cells #[.slice va L0 vc, .int .i64 lk, .int .i64 ch] 26) ∧ u.heap[w1.heap.size]? = some (.cells #[.int .i64 f, .int .i64 wi, .int .i64 lo, .int .i64 ag] 23) ∧ u.heap[w2.heap.size]? = some (.cells #[.slice none 0 0, .int .i64 0, .int .i64 0] 26)) :=
    Lib.hid (fun u hu => ⟨hAA.trans (hu.mono hAA.size), (hu.block _ (lt_of_block g1)).trans g1, (hu.block _ (lt_of_block g2)).trans g2, (hu.block _ (lt_of_block hx3)).trans hx3⟩)
  have HSZ : Hid (w.heap.size < w3.heap.size ∧ w1.heap.size < w3.heap.size ∧ w2.heap.size < w3.heap.size ∧ w.heap.size ≤ w1.heap.size ∧ w1.heap.size < w2.heap.size) := Lib.hid ⟨lt_of_block g1, lt_of_block g2, lt_of_block hx3, hA.size, lt_of_block hx2⟩
  obtain ⟨q0, q1, q2⟩ := box3_of g1
  clear hA hA2 hA3 hx1 hx2 hx3 g1 g2 hAA
  have HR3 := Lib.hid (Below.refl w3.heap.size w3)
  go_enter Try.func40, Try.ntmps40
  go_wp2_with fail
  refine (HNEW.out _).mono ?_
  rintro e w4 ⟨rfl, hb⟩
  have HR4 := Lib.hid (HR3.out.trans (hb.mono HR3.out.size))
  clear hb q0 q1 q2
  unfold Mt.newS
  simp only
  obtain ⟨w5, hw5⟩ : ∃ u, w4.alloc (.cells #[.slice none 0 0, .int .i64 (-1), .int .i64 ch] 26) = u := ⟨_, rfl⟩
  have hA5 : Below w4.heap.size w4 w5 := by rw [← hw5]; exact (Below.refl _ w4).alloc (Nat.le_refl _) _
  have hx5 : w5.heap[w4.heap.size]? = some (.cells #[.slice none 0 0, .int .i64 (-1), .int .i64 ch] 26) := by rw [← hw5]; exact heap_alloc_new w4 _
  have hR5 : Below w3.heap.size w3 w5 := HR4.out.trans (hA5.mono HR4.out.size)
  have HR5 := Lib.hid hR5
  have HX5 : Hid (∀ u, Below w5.heap.size w5 u → Below w3.heap.size w3 u ∧ u.heap[w4.heap.size]? = some (.cells #[.slice none 0 0, .int .i64 (-1), .int .i64 ch] 26)) := Lib.hid (fun u hu => ⟨hR5.trans (hu.mono hR5.size), (hu.block _ (lt_of_block hx5)).trans hx5⟩)
  have HSZ5 : Hid (w3.heap.size ≤ w4.heap.size ∧ w4.heap.size < w5.heap.size) := Lib.hid ⟨HR4.out.size, lt_of_block hx5⟩
  obtain ⟨HB5, b0, b1, b2⟩ := HQ.out w5 hR5
  obtain ⟨q0, q1, q2⟩ := box3_of b0
  obtain ⟨p0, p1, p2, p3⟩ := box4_of b1
  have HC5 := Lib.hid (HCO.out w5 HB5)
  clear hA5 hx5 hR5 b0 b1 b2 HB5
  go_wp2_with fail
  refine (HC5.out).mono ?_
  rintro e w6 ⟨a6, m6, c6, rfl, how6, hb6⟩
  have HR6 := Lib.hid hb6
  obtain ⟨g6, hg6, hrw6⟩ := how6
  have HBS := Lib.hid (binSearch23_any now hrw6.tm (by have := HCC.out.1; omega) HCC.out.2.1)
  have HW6 : Hid (w5.heap.size ≤ g6 ∧ IsRw 2 1 w6 g6 (.slice a6 m6 c6) C.length (tms C)) := Lib.hid ⟨hg6, hrw6⟩
  clear hb6 hg6 hrw6 q0 q1 q2 p0 p1 p2 p3
  go_wp2_with fail
  refine (HBS.out).mono ?_
  rintro e w7 ⟨bz, rfl, hb7⟩
  have HR7 := Lib.hid (HR6.out.trans (hb7.mono HR6.out.size))
  obtain ⟨w8, hw8⟩ : ∃ u, w7.alloc (.cells #[.int .i64 now] 2) = u := ⟨_, rfl⟩
  have hA8 : Below w7.heap.size w7 w8 := by rw [← hw8]; exact (Below.refl _ w7).alloc (Nat.le_refl _) _
  have hx8 : w8.heap[w7.heap.size]? = some (.cells #[.int .i64 now] 2) := by rw [← hw8]; exact heap_alloc_new w7 _
  have hs8 := lt_of_block hx8
  have hrow : ∃ g, w5.heap.size ≤ g ∧ w7.heap.size ≠ g ∧ IsRw 2 1 w8 g (.slice a6 m6 c6) C.length (tms C) := by
    obtain ⟨h1, h2⟩ := HW6.out
    have h7 := HR7.out.size
    have h67 := hb7.size
    rcases h2.norm (w7.heap.size + 1) with h3 | h3
    · exact ⟨g6, h1, by omega, (h2.below hb7).below hA8⟩
    · exact ⟨w7.heap.size + 1, by omega, by omega, (h3.below hb7).below hA8⟩
  obtain ⟨g, hg1, hg2, hrw8⟩ := hrow
  have HR8 := Lib.hid (HR7.out.trans (hA8.mono HR7.out.size))
  have HI8 := Lib.hid (insert23_any now _ hrw8 hx8 hg2 HCC.out.2.2 (by have := HCC.out.1; omega))
  have HG := Lib.hid hg1
  rw [HIN.out] at HI8
  generalize (Mt.aheadL C now).length = K at *
  clear hb7 hA8 hx8 hs8 hg1 hg2 hrw8 HBS
  go_wp2_with fail
  refine (HI8.out).mono ?_
  rintro e w9 ⟨a9, m9, c9, g9, rfl, hrw9, hg9, ho9⟩
  have hb9 : Below w5.heap.size w8 w9 := ho9.toBelow (fun k hk => by have := HG.out; simp at hk; omega) HR8.out.size
  have HR9 := Lib.hid (HR8.out.trans hb9)
  have HW9 : Hid (w5.heap.size ≤ g9 ∧ IsRw 2 1 w9 g9 (.slice a9 m9 c9) I.length (tms I)) := Lib.hid ⟨by have := HG.out; have := HR8.out.size; rcases hg9 with rfl | rfl <;> omega, hrw9⟩
  obtain ⟨rfl⟩ : m9 = I.length := by
    obtain ⟨a, c, e⟩ := hrw9.form
    injection e
  have HLT := Lib.hid (latest23_any hrw9.tm (by have := HIL.out; have := HCC.out.1; omega))
  clear hrw9 hg9 ho9 hb9 HI8
  obtain ⟨h59, y3⟩ := HX5.out w9 HR9.out
  obtain ⟨HB9, b0, b1, b2⟩ := HQ.out w9 h59
  obtain ⟨p0, p1, p2, p3⟩ := box4_of b1
  have HBB := Lib.hid HB9
  have HB2 := Lib.hid b2
  have HY3 := Lib.hid y3
  obtain ⟨IL, hIL⟩ : ∃ n, I.length = n := ⟨_, rfl⟩
  have HILN := Lib.hid hIL
  rw [hIL] at HLT ⊢
  obtain ⟨z0, hz0⟩ : ∃ z, decide (0 < f) = z := ⟨_, rfl⟩
  obtain ⟨z1, hz1⟩ : ∃ z, decide (f ≤ (IL : Int)) = z := ⟨_, rfl⟩
  have HRR : Hid (R = if (z0 && z1) = true then ⟨[], now, ch⟩ else ⟨Mt.lastL I, -1, ch⟩) := Lib.hid (by rw [HFL.out, hIL, hz0, hz1])
  obtain ⟨zz, hzz⟩ : ∃ z, (z0 && z1) = z := ⟨_, rfl⟩
  rw [hzz] at HRR
  have HZZ := Lib.hid hzz
  clear hIL h59 HB9 b0 b1 b2 y3 hzz
  have HN24 : Hid (w2.heap.size ≠ w4.heap.size) := Lib.hid (by have := HSZ.out; have := HSZ5.out; omega)
  have HGE : Hid (w.heap.size ≤ w2.heap.size ∧ w.heap.size ≤ w4.heap.size ∧ w.heap.size ≤ w5.heap.size) := Lib.hid (by have := HSZ.out; have := HSZ5.out; omega)
  cases zz with
  | true =>
    have hR : R = ⟨[], now, ch⟩ := by have := HRR.out; rwa [if_pos rfl] at this
    subst hR
    obtain ⟨rfl, rfl⟩ : z0 = true ∧ z1 = true := by have := HZZ.out; simpa using this
    have r0 := heap_setCell_same w9 w4.heap.size 1 _ 26 (.int .i64 now) HY3.out
    have r2 : (w9.setCell ⟨w4.heap.size, 1, none⟩ (.int .i64 now)).heap[w2.heap.size]? = _ := (heap_setCell_other w9 _ _ _ HN24.out).trans HB2.out
    have hO : OnlyS [w4.heap.size, w2.heap.size] w9 (w9.setCell ⟨w4.heap.size, 1, none⟩ (.int .i64 now)) := (OnlyS.refl _ w9).setCell (by simp) _
    have r5 := set3_of r2 (.slice none 0 0) (.int .i64 now) (.int .i64 ch)
    have hO5 := hO.trans ((only3 (b := w2.heap.size) (.slice none 0 0) (.int .i64 now) (.int .i64 ch)).mono (T := [w4.heap.size, w2.heap.size]) (fun k hk => by simp at hk; simp [hk]))
    obtain ⟨⟨y0, y1, y2⟩, f0, f1, f2⟩ := box3F_of HY3.out
    obtain ⟨⟨x0, x1, x2⟩, k0, k1, k2⟩ := box3F_of r0
    obtain ⟨⟨u0, u1, u2⟩, v0, v1, v2⟩ := box3F_of r2
    have HR5' := Lib.hid r5
    have HO5' := Lib.hid hO5
    clear r0 r2 hO r5 hO5
    go_wp2_with fail
    generalize ((((w9.setCell ⟨w4.heap.size, 1, none⟩ (.int .i64 now)).setCell ⟨w2.heap.size, 0, none⟩ (.slice none 0 0)).setCell ⟨w2.heap.size, 1, none⟩ (.int .i64 now)).setCell ⟨w2.heap.size, 2, none⟩ (.int .i64 ch)) = wz at *
    obtain ⟨n0, n1, n2⟩ := box3_of HR5'.out
    exact post_cell rfl _ _ rfl rfl (load3 n0 n1 n2 Try.underlying26 Try.szPSt) ⟨none, 0, 0, rfl, IsOwn.nil _ _ _ _, HBB.out.trans (HO5'.out.toBelow (fun k hk => by have := HGE.out; simp at hk; omega) HBB.out.size)⟩
  | false =>
    have hR : R = ⟨Mt.lastL I, -1, ch⟩ := by have := HRR.out; rwa [if_neg (by decide)] at this
    subst hR
    have hfin : ∀ (a : Option Addr) (m c : Nat) (w10 : World), IsOwn 2 1 w9.heap.size w10 (.slice a m c) (Mt.lastL I).length (tms (Mt.lastL I)) → Below w9.heap.size w9 w10 → ∀ wz, wz = ((((w10.setCell ⟨w4.heap.size, 0, none⟩ (.slice a m c)).setCell ⟨w2.heap.size, 0, none⟩ (.slice a m c)).setCell ⟨w2.heap.size, 1, none⟩ (.int .i64 (-1))).setCell ⟨w2.heap.size, 2, none⟩ (.int .i64 ch)) →
        wz.heap[w2.heap.size]? = some (.cells #[.slice a m c, .int .i64 (-1), .int .i64 ch] 26) ∧ IsOwn 2 1 w.heap.size wz (.slice a m c) (Mt.lastL I).length (tms (Mt.lastL I)) ∧ Below w.heap.size w wz := by
      intro a m c w10 hown hb wz hwz
      have y4 := (hb.block _ (lt_of_block HY3.out)).trans HY3.out
      have y2 := (hb.block _ (lt_of_block HB2.out)).trans HB2.out
      have r2 : (w10.setCell ⟨w4.heap.size, 0, none⟩ (.slice a m c)).heap[w2.heap.size]? = _ := (heap_setCell_other w10 _ _ _ HN24.out).trans y2
      have hO : OnlyS [w4.heap.size, w2.heap.size] w10 (w10.setCell ⟨w4.heap.size, 0, none⟩ (.slice a m c)) := (OnlyS.refl _ w10).setCell (by simp) _
      have r5 := set3_of r2 (.slice a m c) (.int .i64 (-1)) (.int .i64 ch)
      have hO5 := hO.trans ((only3 (b := w2.heap.size) (.slice a m c) (.int .i64 (-1)) (.int .i64 ch)).mono (T := [w4.heap.size, w2.heap.size]) (fun k hk => by simp at hk; simp [hk]))
      rw [← hwz] at r5 hO5
      have hge := HGE.out
      have l4 := lt_of_block HY3.out
      have l2 := lt_of_block HB2.out
      refine ⟨r5, ?_, (HBB.out.trans (hb.mono HBB.out.size)).trans (hO5.toBelow (fun k hk => by simp at hk; omega) (Nat.le_trans HBB.out.size hb.size))⟩
      obtain ⟨gg, hgg, hr⟩ := hown
      exact ⟨gg, by omega, hr.other hO5 (by simp; omega)⟩
    have HFIN := Lib.hid hfin
    have HNX : Hid (∀ w10, Below w9.heap.size w9 w10 → w10.heap[w4.heap.size]? = some (.cells #[.slice none 0 0, .int .i64 (-1), .int .i64 ch] 26) ∧ w10.heap[w2.heap.size]? = some (.cells #[.slice none 0 0, .int .i64 0, .int .i64 0] 26)) := Lib.hid (fun w10 hb => ⟨(hb.block _ (lt_of_block HY3.out)).trans HY3.out, (hb.block _ (lt_of_block HB2.out)).trans HB2.out⟩)
    have hzz := HZZ.out
    clear hfin
    cases z0 <;> cases z1
    case true.true => cases hzz
    all_goals
      clear hzz
      go_wp2_with fail
      refine (HLT.out).mono ?_
      rintro e w10 ⟨a, m, c, rfl, hown, hb⟩
      obtain ⟨y4, y2⟩ := HNX.out w10 hb
      have HF := Lib.hid (HFIN.out a m c w10 hown hb _ rfl)
      have r0 := heap_setCell_same w10 w4.heap.size 0 _ 26 (.slice a m c) y4
      have r2 : (w10.setCell ⟨w4.heap.size, 0, none⟩ (.slice a m c)).heap[w2.heap.size]? = _ := (heap_setCell_other w10 _ _ _ HN24.out).trans y2
      obtain ⟨⟨y0, y1, y2⟩, f0, f1, f2⟩ := box3F_of y4
      obtain ⟨⟨x0, x1, x2⟩, k0, k1, k2⟩ := box3F_of r0
      obtain ⟨⟨u0, u1, u2⟩, v0, v1, v2⟩ := box3F_of r2
      clear y4 r0 r2 hown hb p0 p1 p2 p3
      go_wp2_with fail
      generalize ((((w10.setCell ⟨w4.heap.size, 0, none⟩ (.slice a m c)).setCell ⟨w2.heap.size, 0, none⟩ (.slice a m c)).setCell ⟨w2.heap.size, 1, none⟩ (.int .i64 (-1))).setCell ⟨w2.heap.size, 2, none⟩ (.int .i64 ch)) = wz at *
      obtain ⟨hr, ho, hbel⟩ := HF.out
      obtain ⟨n0, n1, n2⟩ := box3_of hr
      exact post_cell rfl _ _ rfl rfl (load3 n0 n1 n2 Try.underlying26 Try.szPSt) ⟨a, m, c, rfl, ho, hbel⟩
end Go.Proofs.Ytcijjblcoelabaa
