/-
  Some texts of one proof, one behind the other.
-/
import Derived.Test.YtngdbhncafnliaaGreatPk36
import Derived.Test.YtngdbhncafnliaaGreatPk39
import Derived.Test.YtngdbhncafnliaaGreatPk46
set_option linter.unusedVariables false
set_option linter.unusedSimpArgs false

/-
  Whether rules may be, as the document has it.
-/
namespace Go.Proofs.YtngdbhncafnliaaGreat
open Go.RowKit
set_option linter.unusedVariables false

theorem Mt.rchk_step (s : Mt.Sc) (rs : List Mt.Ru) {i : Nat} (h : i < rs.length) : Mt.rchkR s (rs.drop i) = if rs[i].who < 0 ∨ 4 < rs[i].who then 24 else if Mt.errOf (Mt.dnL rs[i].dn) ≠ 0 then Mt.errOf (Mt.dnL rs[i].dn) else if rs[i].who < 3 ∧ rs[i].dn ≠ [] then 2 else if Mt.errOf (Mt.dnL rs[i].wh) ≠ 0 then Mt.errOf (Mt.dnL rs[i].wh) else if rs[i].att ≠ [] ∧ Mt.tyAt s rs[i].att < 0 then 20 else if rs[i].rights < 1 ∨ 15 < rs[i].rights then 23 else Mt.rchkR s (rs.drop (i + 1)) := by
  rw [List.drop_eq_getElem_cons h]
  generalize rs[i] = r
  show (if r.who < 0 ∨ 4 < r.who then 24 else match Mt.dnL r.dn with
    | .error e => e
    | .ok _ => if r.who < 3 ∧ r.dn ≠ [] then 2 else match Mt.dnL r.wh with
      | .error e => e
      | .ok _ => if r.att ≠ [] ∧ Mt.tyAt s r.att < 0 then 20 else if r.rights < 1 ∨ 15 < r.rights then 23 else Mt.rchkR s (rs.drop (i + 1))) = _
  by_cases hw : r.who < 0 ∨ 4 < r.who
  · rw [if_pos hw, if_pos hw]
  rw [if_neg hw, if_neg hw]
  cases h1 : Mt.dnL r.dn with
  | error e =>
    have := Mt.dnL_err h1
    have h2 : Mt.errOf (Except.error e : Except Nat (List (List Mt.Av))) = e := rfl
    rw [h2, if_pos (show e ≠ 0 by omega)]
  | ok d =>
    have h2 : Mt.errOf (Except.ok d : Except Nat (List (List Mt.Av))) = 0 := rfl
    rw [h2, if_neg (show ¬ ((0 : Nat) ≠ 0) from fun h => h rfl)]
    simp only
    by_cases hn : r.who < 3 ∧ r.dn ≠ []
    · rw [if_pos hn, if_pos hn]
    rw [if_neg hn, if_neg hn]
    cases h3 : Mt.dnL r.wh with
    | error e =>
      have := Mt.dnL_err h3
      have h4 : Mt.errOf (Except.error e : Except Nat (List (List Mt.Av))) = e := rfl
      rw [h4, if_pos (show e ≠ 0 by omega)]
    | ok d2 =>
      have h4 : Mt.errOf (Except.ok d2 : Except Nat (List (List Mt.Av))) = 0 := rfl
      rw [h4, if_neg (show ¬ ((0 : Nat) ≠ 0) from fun h => h rfl)]
set_option maxRecDepth 100000 in
set_option maxHeartbeats 8000000 in
theorem rcheck22_any {tv cv av rv : Value} {s : Mt.Sc} {admin : List (List Mt.Av)} {rs : List Mt.Ru} {w : World} (h : IsSc w tv cv s) (ha : IsDn w av admin) (hr : IsRus w rv rs) (fa : Mt.FitT admin) (hf : ∀ r ∈ rs, Mt.FitRu r) (hl : rs.length ≤ 9223372036854775807) :
    Calls Tryz.prog 12 #[.agg #[tv, cv], av, rv] w fun e w' => e = .returned (.int .i64 (Mt.rchkA s admin rs)) ∧ Below w.heap.size w w' := by
  have HPR := Lib.hid (fun (u : World) (hu : Below w.heap.size w u) => rprint_any (ha.below hu) fa)
  have HFR := Lib.hid hf
  have HPA := Lib.hid (fun (l : List UInt8) (u : World) => rparse22_any l u)
  have HAT := Lib.hid (fun (l : List UInt8) (hn : l.length ≤ 140737488351232) (u : World) (hu : Below w.heap.size w u) => rAt_any (h.types.below hu) l hn h.tnm h.tlen)
  have HTA : Hid (∀ l, Mt.atL (fun t : Mt.Ty => Mt.sameN t.name l) s.types = Mt.tyAt s l) := Lib.hid (fun l => rfl)
  obtain ⟨ta, tcap, hv1, -, -⟩ := h.types
  obtain ⟨ca, ccap, hv2, -, -⟩ := h.classes
  obtain ⟨tn, htn⟩ : ∃ n, s.types.length = n := ⟨_, rfl⟩
  obtain ⟨cn, hcn⟩ : ∃ n, s.classes.length = n := ⟨_, rfl⟩
  rw [htn] at hv1
  rw [hcn] at hv2
  subst hv1 hv2
  obtain ⟨ada, adc, rfl, -, -, -⟩ := ha
  obtain ⟨ra, rc, rfl, hrc, HRS⟩ := hr
  obtain ⟨m, hm⟩ : ∃ m, rs.length = m := ⟨_, rfl⟩
  have HM := Lib.hid hm
  rw [hm] at hrc hl ⊢
  obtain ⟨w1, hw1⟩ : ∃ u, w.alloc (.cells #[.slice ta tn tcap, .slice ca cn ccap] 35) = u := ⟨_, rfl⟩
  have hA1 : Below w.heap.size w w1 := by rw [← hw1]; exact (Below.refl _ w).alloc (Nat.le_refl _) _
  have hx1 : w1.heap[w.heap.size]? = some (.cells #[.slice ta tn tcap, .slice ca cn ccap] 35) := by rw [← hw1]; exact heap_alloc_new w _
  have HA1 := Lib.hid hA1
  have HX : Hid (∀ u, Below w1.heap.size w1 u → (u.cell? ⟨w.heap.size, 0, none⟩ = some (.slice ta tn tcap) ∧ u.cell? ⟨w.heap.size, 1, none⟩ = some (.slice ca cn ccap)) ∧ Below w.heap.size w u) := Lib.hid (fun u hu =>
    ⟨box2_of22 ((hu.block w.heap.size (lt_of_block hx1)).trans hx1), hA1.trans (hu.mono hA1.size)⟩)
  have hN1 := HPR.out w1 hA1
  obtain ⟨RES, hRES⟩ : ∃ z, Mt.rchkA s admin rs = z := ⟨_, rfl⟩
  rw [hRES]
  have hres := hRES
  unfold Mt.rchkA at hres
  clear h fa hf hA1 hx1 htn hcn hm hRES
  cases hk : Mt.printD admin with
  | error e1 =>
    rw [hk] at hres hN1
    unfold textV at hN1
    have hep := Mt.print_err hk
    have hei : ((e1 : Int) != 0) = true := by simp; omega
    have hei2 : ¬ e1 = 0 := by omega
    have HE := Lib.hid (show RES = e1 from hres.symm)
    have HN1 := Lib.hid hN1
    clear hk hres hN1 hep
    go_enter Tryz.func12, Tryz.ntmps12
    go_wp2_with fail
    refine (HN1.out).mono ?_
    rintro e w2 ⟨rfl, hb⟩
    have HB2 := Lib.hid (HA1.out.trans (hb.mono HA1.out.size))
    clear hb
    go_wp2_with fail
    all_goals (go_ret; exact ⟨by rw [HE.out]; rfl, HB2.out⟩)
  | ok k1 =>
  rw [hk] at hres hN1
  unfold textV at hN1
  have HRES0 := Lib.hid (show Mt.rchkR s (rs.drop 0) = RES from hres)
  generalize Mt.str k1 = KB at *
  have HN1 := Lib.hid hN1
  clear hk hres hN1
  go_enter Tryz.func12, Tryz.ntmps12
  go_wp2_with fail
  refine (HN1.out).mono ?_
  rintro e w2 ⟨rfl, hb⟩
  have HW2 : Hid (Below w1.heap.size w1 w2) := Lib.hid hb
  clear hb
  go_wp2_with fail
  go_loopw [23] (fun iv wr => ∃ i : Nat, i ≤ m ∧ iv = .int .i64 (i : Int) ∧ Hid (Mt.rchkR s (rs.drop i) = RES) ∧ Hid (Below w1.heap.size w1 wr)) (fun iv _ => m - (intOf iv).toNat)
  case atStart => exact ⟨0, Nat.zero_le _, rfl, HRES0, HW2⟩
  case round =>
    obtain ⟨i, hi, rfl, HC, HW⟩ := hrel
    have HB := Lib.hid (HX.out wr HW.out).2
    by_cases hlt : i < m
    · have e1 : decide ((i : Int) < (m : Int)) = true := decide_eq_true (by omega)
      have e2 : decide (i < m) = true := decide_eq_true hlt
      have i0 : (0 : Int) ≤ (i : Int) := by omega
      have i1 : (i : Int) < (m : Int) := by omega
      have hil : i < rs.length := by rw [HM.out]; exact hlt
      obtain ⟨b, off, e0, hbl, h0, h1, h2, h3, h4, h5⟩ := HRS.out i hil
      subst e0
      have x0 := (HB.out.cell (p := ⟨b, off + i * 6, none⟩) hbl).trans h0
      have x1 := (HB.out.cell (p := ⟨b, off + i * 6 + 1, none⟩) hbl).trans h1
      have x2 := (HB.out.cell (p := ⟨b, off + i * 6 + 2, none⟩) hbl).trans h2
      have x3 := (HB.out.cell (p := ⟨b, off + i * 6 + 3, none⟩) hbl).trans h3
      have x4 := (HB.out.cell (p := ⟨b, off + i * 6 + 4, none⟩) hbl).trans h4
      have x5 := (HB.out.cell (p := ⟨b, off + i * 6 + 5, none⟩) hbl).trans h5
      have hst := Mt.rchk_step s rs hil
      rw [HC.out] at hst
      have hfr := HFR.out _ (List.getElem_mem hil)
      obtain ⟨r, hr⟩ : ∃ r, rs[i] = r := ⟨_, rfl⟩
      rw [hr] at x0 x1 x2 x3 x4 x5 hst hfr
      obtain ⟨who, dn, wh, att, ri, al⟩ := r
      simp only at x0 x1 x2 x3 x4 x5 hst
      have HPD := Lib.hid (HPA.out dn)
      have HPW := Lib.hid (HPA.out wh)
      have HAA := Lib.hid (HAT.out att hfr.2.2)
      rw [HTA.out] at HAA
      have HUD := isEmpty_str dn
      have HUA := isEmpty_str att
      obtain ⟨ED, hED⟩ : ∃ z, decide (dn = []) = z := ⟨_, rfl⟩
      obtain ⟨EA, hEA⟩ : ∃ z, decide (att = []) = z := ⟨_, rfl⟩
      rw [hED] at HUD
      rw [hEA] at HUA
      obtain ⟨t1, ht1⟩ : ∃ t, Mt.errOf (Mt.dnL dn) = t := ⟨_, rfl⟩
      obtain ⟨t2, ht2⟩ : ∃ t, Mt.errOf (Mt.dnL wh) = t := ⟨_, rfl⟩
      obtain ⟨ka, hka⟩ : ∃ t, Mt.tyAt s att = t := ⟨_, rfl⟩
      rw [ht1] at HPD hst
      rw [ht2] at HPW hst
      rw [hka] at HAA hst
      have HST := Lib.hid hst
      have HED := Lib.hid hED
      have HEA := Lib.hid hEA
      generalize Mt.str dn = DB at *
      generalize Mt.str wh = WB at *
      generalize Mt.str att = AB at *
      obtain ⟨wa, hwa⟩ : ∃ u, wr.alloc (.cells #[.int .i64 who, .string DB, .string WB, .string AB, .int .i64 ri, .bool al] 54) = u := ⟨_, rfl⟩
      have hAa : Below wr.heap.size wr wa := by rw [← hwa]; exact (Below.refl _ wr).alloc (Nat.le_refl _) _
      have hxa : wa.heap[wr.heap.size]? = some (.cells #[.int .i64 who, .string DB, .string WB, .string AB, .int .i64 ri, .bool al] 54) := by rw [← hwa]; exact heap_alloc_new wr _
      have HWa := Lib.hid (HW.out.trans (hAa.mono HW.out.size))
      have HQ : Hid (∀ u, Below wa.heap.size wa u → u.heap[wr.heap.size]? = some (.cells #[.int .i64 who, .string DB, .string WB, .string AB, .int .i64 ri, .bool al] 54) ∧ Below w1.heap.size w1 u) := Lib.hid (fun u hu => ⟨(hu.block _ (lt_of_block hxa)).trans hxa, HWa.out.trans (hu.mono HWa.out.size)⟩)
      obtain ⟨q0, q1, q2, q3, q4, q5⟩ := box6_of hxa
      clear hbl h0 h1 h2 h3 h4 h5 hil hr hst hED hEA ht1 ht2 hka hAa hxa hfr HC
      by_cases hw : who < 0 ∨ 4 < who
      · have hcase : decide (who < 0) = true ∨ (decide (who < 0) = false ∧ decide (4 < who) = true) := by
          rcases hw with h | h
          · exact .inl (decide_eq_true h)
          · by_cases h0 : who < 0
            · exact .inl (decide_eq_true h0)
            · exact .inr ⟨decide_eq_false h0, decide_eq_true h⟩
        have HE : Hid (RES = 24) := Lib.hid (by rw [HST.out, if_pos hw])
        have HBa := Lib.hid (HX.out wa HWa.out).2
        clear hw
        rcases hcase with d1 | ⟨d1, d2⟩
        all_goals
          go_wp2_with fail
          all_goals (go_ret; exact ⟨by rw [HE.out]; rfl, HBa.out⟩)
      have d1 : decide (who < 0) = false := decide_eq_false (by omega)
      have d2 : decide (4 < who) = false := decide_eq_false (by omega)
      have HNW := Lib.hid hw
      clear hw
      go_wp2_with fail
      refine (HPD.out _).mono ?_
      rintro e w5 ⟨pa, pn, pc, rfl, -, hb⟩
      have HY5 := Lib.hid hb
      have HW5 := Lib.hid (HQ.out _ hb).2
      have HB5 := Lib.hid (HX.out _ HW5.out).2
      clear hb x0 x1 x2 x3 x4 x5 q0 q1 q2 q3 q4 q5
      obtain ⟨q0, q1, q2, q3, q4, q5⟩ := box6_of (HQ.out _ HY5.out).1
      by_cases hz1 : t1 = 0
      rotate_left
      · have hei : ((t1 : Int) != 0) = true := by simp; omega
        have HE : Hid (RES = t1) := Lib.hid (by rw [HST.out, if_neg HNW.out, if_pos hz1])
        go_wp2_with fail
        all_goals (go_ret; exact ⟨by rw [HE.out]; rfl, HB5.out⟩)
      subst hz1
      by_cases hne : who < 3 ∧ dn ≠ []
      · have d4 : decide (who < 3) = true := decide_eq_true hne.1
        have hE0 : ED = false := by rw [← HED.out]; exact decide_eq_false hne.2
        subst hE0
        have HE : Hid (RES = 2) := Lib.hid (by rw [HST.out, if_neg HNW.out, if_neg (fun h => h rfl), if_pos hne])
        clear hne
        go_wp2_with fail
        all_goals (go_ret; exact ⟨by rw [HE.out]; rfl, HB5.out⟩)
      have hcs : decide (who < 3) = false ∨ (decide (who < 3) = true ∧ ED = true) := by
        by_cases h0 : who < 3
        · exact .inr ⟨decide_eq_true h0, by rw [← HED.out]; exact decide_eq_true (by by_cases h : dn = []; exact h; exact absurd ⟨h0, h⟩ hne)⟩
        · exact .inl (decide_eq_false h0)
      have HNE := Lib.hid hne
      clear hne
      rcases hcs with d4 | ⟨d4, rfl⟩
      · go_wp2_with fail
        refine (HPW.out _).mono ?_
        rintro e w6 ⟨pa2, pn2, pc2, rfl, -, hb⟩
        have HY6 := Lib.hid (HY5.out.trans (hb.mono HY5.out.size))
        have HW6 := Lib.hid (HQ.out _ HY6.out).2
        have HB6 := Lib.hid (HX.out _ HW6.out).2
        clear hb q0 q1 q2 q3 q4 q5
        obtain ⟨q0, q1, q2, q3, q4, q5⟩ := box6_of (HQ.out _ HY6.out).1
        by_cases hz2 : t2 = 0
        rotate_left
        · have hei : ((t2 : Int) != 0) = true := by simp; omega
          have HE : Hid (RES = t2) := Lib.hid (by rw [HST.out, if_neg HNW.out, if_neg (fun h => h rfl), if_neg HNE.out, if_pos hz2])
          go_wp2_with fail
          all_goals (go_ret; exact ⟨by rw [HE.out]; rfl, HB6.out⟩)
        subst hz2
        by_cases hat : att ≠ [] ∧ ka < 0
        · have hE0 : EA = false := by rw [← HEA.out]; exact decide_eq_false hat.1
          subst hE0
          have d5 : decide (ka < 0) = true := decide_eq_true hat.2
          have HE : Hid (RES = 20) := Lib.hid (by rw [HST.out, if_neg HNW.out, if_neg (fun h => h rfl), if_neg HNE.out, if_neg (fun h => h rfl), if_pos hat])
          obtain ⟨p0, p1⟩ := (HX.out _ HW6.out).1
          have HA6 := Lib.hid (HAA.out _ HB6.out)
          clear hat
          go_wp2_with fail
          refine (HA6.out).mono ?_
          rintro e w7 ⟨rfl, hb⟩
          have HB7 := Lib.hid (HB6.out.trans (hb.mono HB6.out.size))
          clear hb
          go_wp2_with fail
          all_goals (go_ret; exact ⟨by rw [HE.out]; rfl, HB7.out⟩)
        have hcs : EA = true ∨ (EA = false ∧ decide (ka < 0) = false) := by
          by_cases h0 : att = []
          · exact .inl (by rw [← HEA.out]; exact decide_eq_true h0)
          · exact .inr ⟨by rw [← HEA.out]; exact decide_eq_false h0, decide_eq_false (fun h => hat ⟨h0, h⟩)⟩
        have HNT := Lib.hid hat
        clear hat
        rcases hcs with rfl | ⟨rfl, d5⟩
        · have HW7 := HW6
          have HB7 := HB6
          by_cases hr : ri < 1 ∨ 15 < ri
          · have hcase : decide (ri < 1) = true ∨ (decide (ri < 1) = false ∧ decide (15 < ri) = true) := by
              rcases hr with h | h
              · exact .inl (decide_eq_true h)
              · by_cases h0 : ri < 1
                · exact .inl (decide_eq_true h0)
                · exact .inr ⟨decide_eq_false h0, decide_eq_true h⟩
            have HE : Hid (RES = 23) := Lib.hid (by rw [HST.out, if_neg HNW.out, if_neg (fun h => h rfl), if_neg HNE.out, if_neg (fun h => h rfl), if_neg HNT.out, if_pos hr])
            clear hr
            rcases hcase with d6 | ⟨d6, d7⟩
            all_goals
              go_wp2_with fail
              all_goals (go_ret; exact ⟨by rw [HE.out]; rfl, HB7.out⟩)
          have d6 : decide (ri < 1) = false := decide_eq_false (by omega)
          have d7 : decide (15 < ri) = false := decide_eq_false (by omega)
          have HE : Hid (Mt.rchkR s (rs.drop (i + 1)) = RES) := Lib.hid (by rw [HST.out, if_neg HNW.out, if_neg (fun h => h rfl), if_neg HNE.out, if_neg (fun h => h rfl), if_neg HNT.out, if_neg hr])
          clear hr
          go_wp2_with fail
          go_roundw
          case rel => exact ⟨i + 1, by omega, by go_num, HE, HW7⟩
          case measure => simp [intOf]; omega
        · obtain ⟨p0, p1⟩ := (HX.out _ HW6.out).1
          have HA6 := Lib.hid (HAA.out _ HB6.out)
          go_wp2_with fail
          refine (HA6.out).mono ?_
          rintro e w7 ⟨rfl, hb⟩
          have HY7 := Lib.hid (HY6.out.trans (hb.mono HY6.out.size))
          have HW7 := Lib.hid (HQ.out _ HY7.out).2
          have HB7 := Lib.hid (HX.out _ HW7.out).2
          clear hb q0 q1 q2 q3 q4 q5 p0 p1
          obtain ⟨q0, q1, q2, q3, q4, q5⟩ := box6_of (HQ.out _ HY7.out).1
          by_cases hr : ri < 1 ∨ 15 < ri
          · have hcase : decide (ri < 1) = true ∨ (decide (ri < 1) = false ∧ decide (15 < ri) = true) := by
              rcases hr with h | h
              · exact .inl (decide_eq_true h)
              · by_cases h0 : ri < 1
                · exact .inl (decide_eq_true h0)
                · exact .inr ⟨decide_eq_false h0, decide_eq_true h⟩
            have HE : Hid (RES = 23) := Lib.hid (by rw [HST.out, if_neg HNW.out, if_neg (fun h => h rfl), if_neg HNE.out, if_neg (fun h => h rfl), if_neg HNT.out, if_pos hr])
            clear hr
            rcases hcase with d6 | ⟨d6, d7⟩
            all_goals
              go_wp2_with fail
              all_goals (go_ret; exact ⟨by rw [HE.out]; rfl, HB7.out⟩)
          have d6 : decide (ri < 1) = false := decide_eq_false (by omega)
          have d7 : decide (15 < ri) = false := decide_eq_false (by omega)
          have HE : Hid (Mt.rchkR s (rs.drop (i + 1)) = RES) := Lib.hid (by rw [HST.out, if_neg HNW.out, if_neg (fun h => h rfl), if_neg HNE.out, if_neg (fun h => h rfl), if_neg HNT.out, if_neg hr])
          clear hr
          go_wp2_with fail
          go_roundw
          case rel => exact ⟨i + 1, by omega, by go_num, HE, HW7⟩
          case measure => simp [intOf]; omega
      · go_wp2_with fail
        refine (HPW.out _).mono ?_
        rintro e w6 ⟨pa2, pn2, pc2, rfl, -, hb⟩
        have HY6 := Lib.hid (HY5.out.trans (hb.mono HY5.out.size))
        have HW6 := Lib.hid (HQ.out _ HY6.out).2
        have HB6 := Lib.hid (HX.out _ HW6.out).2
        clear hb q0 q1 q2 q3 q4 q5
        obtain ⟨q0, q1, q2, q3, q4, q5⟩ := box6_of (HQ.out _ HY6.out).1
        by_cases hz2 : t2 = 0
        rotate_left
        · have hei : ((t2 : Int) != 0) = true := by simp; omega
          have HE : Hid (RES = t2) := Lib.hid (by rw [HST.out, if_neg HNW.out, if_neg (fun h => h rfl), if_neg HNE.out, if_pos hz2])
          go_wp2_with fail
          all_goals (go_ret; exact ⟨by rw [HE.out]; rfl, HB6.out⟩)
        subst hz2
        by_cases hat : att ≠ [] ∧ ka < 0
        · have hE0 : EA = false := by rw [← HEA.out]; exact decide_eq_false hat.1
          subst hE0
          have d5 : decide (ka < 0) = true := decide_eq_true hat.2
          have HE : Hid (RES = 20) := Lib.hid (by rw [HST.out, if_neg HNW.out, if_neg (fun h => h rfl), if_neg HNE.out, if_neg (fun h => h rfl), if_pos hat])
          obtain ⟨p0, p1⟩ := (HX.out _ HW6.out).1
          have HA6 := Lib.hid (HAA.out _ HB6.out)
          clear hat
          go_wp2_with fail
          refine (HA6.out).mono ?_
          rintro e w7 ⟨rfl, hb⟩
          have HB7 := Lib.hid (HB6.out.trans (hb.mono HB6.out.size))
          clear hb
          go_wp2_with fail
          all_goals (go_ret; exact ⟨by rw [HE.out]; rfl, HB7.out⟩)
        have hcs : EA = true ∨ (EA = false ∧ decide (ka < 0) = false) := by
          by_cases h0 : att = []
          · exact .inl (by rw [← HEA.out]; exact decide_eq_true h0)
          · exact .inr ⟨by rw [← HEA.out]; exact decide_eq_false h0, decide_eq_false (fun h => hat ⟨h0, h⟩)⟩
        have HNT := Lib.hid hat
        clear hat
        rcases hcs with rfl | ⟨rfl, d5⟩
        · have HW7 := HW6
          have HB7 := HB6
          by_cases hr : ri < 1 ∨ 15 < ri
          · have hcase : decide (ri < 1) = true ∨ (decide (ri < 1) = false ∧ decide (15 < ri) = true) := by
              rcases hr with h | h
              · exact .inl (decide_eq_true h)
              · by_cases h0 : ri < 1
                · exact .inl (decide_eq_true h0)
                · exact .inr ⟨decide_eq_false h0, decide_eq_true h⟩
            have HE : Hid (RES = 23) := Lib.hid (by rw [HST.out, if_neg HNW.out, if_neg (fun h => h rfl), if_neg HNE.out, if_neg (fun h => h rfl), if_neg HNT.out, if_pos hr])
            clear hr
            rcases hcase with d6 | ⟨d6, d7⟩
            all_goals
              go_wp2_with fail
              all_goals (go_ret; exact ⟨by rw [HE.out]; rfl, HB7.out⟩)
          have d6 : decide (ri < 1) = false := decide_eq_false (by omega)
          have d7 : decide (15 < ri) = false := decide_eq_false (by omega)
          have HE : Hid (Mt.rchkR s (rs.drop (i + 1)) = RES) := Lib.hid (by rw [HST.out, if_neg HNW.out, if_neg (fun h => h rfl), if_neg HNE.out, if_neg (fun h => h rfl), if_neg HNT.out, if_neg hr])
          clear hr
          go_wp2_with fail
          go_roundw
          case rel => exact ⟨i + 1, by omega, by go_num, HE, HW7⟩
          case measure => simp [intOf]; omega
        · obtain ⟨p0, p1⟩ := (HX.out _ HW6.out).1
          have HA6 := Lib.hid (HAA.out _ HB6.out)
          go_wp2_with fail
          refine (HA6.out).mono ?_
          rintro e w7 ⟨rfl, hb⟩
          have HY7 := Lib.hid (HY6.out.trans (hb.mono HY6.out.size))
          have HW7 := Lib.hid (HQ.out _ HY7.out).2
          have HB7 := Lib.hid (HX.out _ HW7.out).2
          clear hb q0 q1 q2 q3 q4 q5 p0 p1
          obtain ⟨q0, q1, q2, q3, q4, q5⟩ := box6_of (HQ.out _ HY7.out).1
          by_cases hr : ri < 1 ∨ 15 < ri
          · have hcase : decide (ri < 1) = true ∨ (decide (ri < 1) = false ∧ decide (15 < ri) = true) := by
              rcases hr with h | h
              · exact .inl (decide_eq_true h)
              · by_cases h0 : ri < 1
                · exact .inl (decide_eq_true h0)
                · exact .inr ⟨decide_eq_false h0, decide_eq_true h⟩
            have HE : Hid (RES = 23) := Lib.hid (by rw [HST.out, if_neg HNW.out, if_neg (fun h => h rfl), if_neg HNE.out, if_neg (fun h => h rfl), if_neg HNT.out, if_pos hr])
            clear hr
            rcases hcase with d6 | ⟨d6, d7⟩
            all_goals
              go_wp2_with fail
              all_goals (go_ret; exact ⟨by rw [HE.out]; rfl, HB7.out⟩)
          have d6 : decide (ri < 1) = false := decide_eq_false (by omega)
          have d7 : decide (15 < ri) = false := decide_eq_false (by omega)
          have HE : Hid (Mt.rchkR s (rs.drop (i + 1)) = RES) := Lib.hid (by rw [HST.out, if_neg HNW.out, if_neg (fun h => h rfl), if_neg HNE.out, if_neg (fun h => h rfl), if_neg HNT.out, if_neg hr])
          clear hr
          go_wp2_with fail
          go_roundw
          case rel => exact ⟨i + 1, by omega, by go_num, HE, HW7⟩
          case measure => simp [intOf]; omega
    · obtain rfl : i = m := by omega
      have e1 : decide ((i : Int) < (i : Int)) = false := decide_eq_false (by omega)
      have e2 : decide (i < i) = false := decide_eq_false (by omega)
      have hall : rs.drop i = [] := List.drop_of_length_le (by rw [HM.out]; exact Nat.le_refl _)
      have HE : Hid (RES = 0) := Lib.hid (by rw [← HC.out, hall]; rfl)
      clear hall
      go_wp2_with fail
      all_goals (go_ret; exact ⟨by rw [HE.out]; rfl, HB.out⟩)
end Go.Proofs.YtngdbhncafnliaaGreat
