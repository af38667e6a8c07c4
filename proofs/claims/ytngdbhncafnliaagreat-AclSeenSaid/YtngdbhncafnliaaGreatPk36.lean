/-
  Some texts of one proof, one behind the other.
-/
import Derived.Test.YtngdbhncafnliaaGreatPk35
set_option linter.unusedVariables false
set_option linter.unusedSimpArgs false

/-
  Whether somebody may do something, as the document has it.
-/
namespace Go.Proofs.YtngdbhncafnliaaGreat
open Go.RowKit
set_option linter.unusedVariables false

theorem Mt.findA_step (rs : List Mt.Ru) (d1 d2 : List (List Mt.Av)) (a : List UInt8) (right : Int) {i : Nat} (h : i < rs.length) : Mt.findA (rs.drop i) d1 d2 a right = if Mt.speaksA rs[i] d1 d2 a right = true then rs[i].allow else Mt.findA (rs.drop (i + 1)) d1 d2 a right := by
  rw [List.drop_eq_getElem_cons h]
  unfold Mt.findA
  rw [List.find?_cons]
  cases Mt.speaksA rs[i] d1 d2 a right <;> rfl
/-- Rules that may be, and fit into memory. -/
def Mt.SoundR (rs : List Mt.Ru) : Prop := ∀ r ∈ rs, (1 ≤ r.rights ∧ r.rights ≤ 15) ∧ r.dn.length ≤ 140737488351232 ∧ r.wh.length ≤ 140737488351232 ∧ r.att.length ≤ 140737488351232
set_option maxRecDepth 100000 in
set_option maxHeartbeats 8000000 in
theorem rmay22_any {w : World} {v0 rv v1 v2 : Value} {admin d1 d2 : List (List Mt.Av)} {rs : List Mt.Ru} {right : Int} (a : List UInt8) (h0 : IsDn w v0 admin) (hr : IsRus w rv rs) (h1 : IsDn w v1 d1) (h2 : IsDn w v2 d2) (f0 : Mt.FitT admin) (f1 : Mt.FitT d1) (f2 : Mt.FitT d2) (hs : Mt.SoundR rs) (hal : a.length ≤ 140737488351232) (hl : rs.length ≤ 9223372036854775807) :
    Calls Tryz.prog 14 #[v0, rv, v1, v2, .string (Mt.str a), .int .i64 right] w fun e w' => e = .returned (.bool (Mt.rmayA admin rs d1 d2 a right)) ∧ Below w.heap.size w w' := by
  have HP1 := Lib.hid (rprint_any h1 f1)
  have HP2 := Lib.hid (fun (u : World) (hb : Below w.heap.size w u) => rprint_any (h2.below hb) f2)
  have HSA := Lib.hid (fun (u : World) (hb : Below w.heap.size w u) => rsame22_any (h1.below hb) (h0.below hb) f1 f0)
  obtain ⟨SPK, hSPK⟩ : ∃ f : Mt.Ru → Bool, f = fun r => Mt.speaksA r d1 d2 a right := ⟨_, rfl⟩
  obtain ⟨FND, hFND⟩ : ∃ f : List Mt.Ru → Bool, f = fun l => Mt.findA l d1 d2 a right := ⟨_, rfl⟩
  have HSP : Hid (Mt.rightB right = true → ∀ (r : Mt.Ru), r ∈ rs → ∀ (u : World), Below w.heap.size w u → Calls Tryz.prog 32 #[ruV r, v1, v2, .string (Mt.str a), .int .i64 right] u fun e w' => e = .returned (.bool (SPK r)) ∧ Below u.heap.size u w') := Lib.hid (fun hrt r hm u hb => by
    rw [hSPK]
    exact rspeaks22_any (right := right) r a (h1.below hb) (h2.below hb) f1 f2 (hs r hm).1.1 (hs r hm).1.2 hrt (hs r hm).2.2.2 hal)
  have hk1 := Mt.print_two d1
  have hk2 := Mt.print_two d2
  have HST : Hid (∀ (i : Nat) (h : i < rs.length), FND (rs.drop i) = if SPK rs[i] = true then rs[i].allow else FND (rs.drop (i + 1))) := Lib.hid (fun i h => by rw [hSPK, hFND]; exact Mt.findA_step rs d1 d2 a right h)
  have HF9 : Hid (FND [] = false) := Lib.hid (by rw [hFND]; rfl)
  obtain ⟨RES, hRES⟩ : ∃ z, Mt.rmayA admin rs d1 d2 a right = z := ⟨_, rfl⟩
  rw [hRES]
  have hres := hRES
  unfold Mt.rmayA Mt.goodA at hres
  obtain ⟨SA, hSA⟩ : ∃ z, Mt.sameA d1 admin = z := ⟨_, rfl⟩
  simp only [hSA] at HSA
  rw [hSA] at hres
  obtain ⟨FA, hFA⟩ : ∃ z, Mt.findA rs d1 d2 a right = z := ⟨_, rfl⟩
  rw [hFA] at hres
  have HF0 : Hid (FND (rs.drop 0) = FA) := Lib.hid (by rw [hFND]; exact hFA)
  clear hSPK hFND
  obtain ⟨RB, hRB⟩ : ∃ z, Mt.rightB right = z := ⟨_, rfl⟩
  rw [hRB] at hres HSP
  obtain ⟨a0, c0, rfl, -⟩ := h0
  obtain ⟨ra, rc, rfl, hrc, HRS⟩ := hr
  obtain ⟨a1, c1, rfl, -⟩ := h1
  obtain ⟨a2, c2, rfl, -⟩ := h2
  obtain ⟨m, hm⟩ : ∃ m, rs.length = m := ⟨_, rfl⟩
  have HM := Lib.hid hm
  rw [hm] at hrc hl ⊢
  obtain ⟨n1, hn1⟩ : ∃ n, d1.length = n := ⟨_, rfl⟩
  have HN1 : Hid (d1 = [] ↔ n1 = 0) := Lib.hid (by rw [← hn1]; exact List.length_eq_zero_iff.symm)
  rw [hn1] at HP1 HSA HSP ⊢
  generalize Mt.str a = AB at *
  clear f0 f1 f2 hs hal hRES hSA hFA hm hn1
  rcases hk1 with ⟨ho1, t1, ht1⟩ | ⟨ho1, e1, hp1, ht1⟩
  rotate_left
  · have HR : Hid (RES = false) := Lib.hid (by rw [← hres, ho1]; simp)
    have HT2 : Hid (∃ r t, textV (Mt.printD d2) = .tuple #[.string r, .int .i64 t]) := Lib.hid (by
      rcases hk2 with ⟨_, t2, ht2⟩ | ⟨_, e2, _, ht2⟩
      · exact ⟨_, _, ht2⟩
      · exact ⟨_, _, ht2⟩)
    obtain ⟨r2, t2, hrt⟩ := HT2.out
    simp only [ht1] at HP1
    simp only [hrt] at HP2
    have hz1 : ((e1 : Int) != 0) = true := by simp; omega
    have hz2 : ¬ e1 = 0 := by omega
    clear ht1 hrt ho1 hp1 hk2 HT2 hres
    go_enter Tryz.func14, Tryz.ntmps14
    go_wp2_with fail
    refine (HP1.out).mono ?_
    rintro e w2 ⟨rfl, hb⟩
    have HB2 := Lib.hid hb
    clear hb
    go_wp2_with fail
    refine (HP2.out _ HB2.out).mono ?_
    rintro e w3 ⟨rfl, hb⟩
    have HB3 := Lib.hid (HB2.out.trans (hb.mono HB2.out.size))
    clear hb
    go_wp2_with fail
    all_goals (go_ret; exact ⟨by rw [HR.out]; rfl, HB3.out⟩)
  rcases hk2 with ⟨ho2, t2, ht2⟩ | ⟨ho2, e2, hp2, ht2⟩
  rotate_left
  · have HR : Hid (RES = false) := Lib.hid (by rw [← hres, ho2]; simp)
    simp only [ht1] at HP1
    simp only [ht2] at HP2
    have hz1 : ((e2 : Int) != 0) = true := by simp; omega
    have hz2 : ¬ e2 = 0 := by omega
    clear ht1 ht2 ho1 ho2 hp2 hres
    go_enter Tryz.func14, Tryz.ntmps14
    go_wp2_with fail
    refine (HP1.out).mono ?_
    rintro e w2 ⟨rfl, hb⟩
    have HB2 := Lib.hid hb
    clear hb
    go_wp2_with fail
    refine (HP2.out _ HB2.out).mono ?_
    rintro e w3 ⟨rfl, hb⟩
    have HB3 := Lib.hid (HB2.out.trans (hb.mono HB2.out.size))
    clear hb
    go_wp2_with fail
    all_goals (go_ret; exact ⟨by rw [HR.out]; rfl, HB3.out⟩)
  simp only [ht1] at HP1
  simp only [ht2] at HP2
  rw [ho1, ho2] at hres
  clear ht1 ht2 ho1 ho2
  cases RB with
  | false =>
    have HR : Hid (RES = false) := Lib.hid (by rw [← hres]; simp)
    unfold Mt.rightB at hRB
    rw [decide_eq_false_iff_not] at hRB
    have g1 : ¬ right = 1 := fun h => hRB (.inl h)
    have g2 : ¬ right = 2 := fun h => hRB (.inr (.inl h))
    have g4 : ¬ right = 4 := fun h => hRB (.inr (.inr (.inl h)))
    have g8 : ¬ right = 8 := fun h => hRB (.inr (.inr (.inr h)))
    have b1 : (right != 1) = true := by simpa using g1
    have b2 : (right != 2) = true := by simpa using g2
    have b4 : (right != 4) = true := by simpa using g4
    have b8 : (right != 8) = true := by simpa using g8
    clear hRB hres HSP
    go_enter Tryz.func14, Tryz.ntmps14
    go_wp2_with fail
    refine (HP1.out).mono ?_
    rintro e w2 ⟨rfl, hb⟩
    have HB2 := Lib.hid hb
    clear hb
    go_wp2_with fail
    refine (HP2.out _ HB2.out).mono ?_
    rintro e w3 ⟨rfl, hb⟩
    have HB3 := Lib.hid (HB2.out.trans (hb.mono HB2.out.size))
    clear hb
    go_wp2_with fail
    all_goals (go_ret; exact ⟨by rw [HR.out]; rfl, HB3.out⟩)
  | true =>
  have HRES : Hid (RES = if d1 ≠ [] ∧ SA = true then true else FA) := Lib.hid hres.symm
  have HSP2 := Lib.hid (HSP.out rfl)
  clear hres HSP
  unfold Mt.rightB at hRB
  rw [decide_eq_true_eq] at hRB
  rcases hRB with rfl | rfl | rfl | rfl
  all_goals
    go_enter Tryz.func14, Tryz.ntmps14
    go_wp2_with fail
    refine (HP1.out).mono ?_
    rintro e w2 ⟨rfl, hb⟩
    have HB2 := Lib.hid hb
    clear hb
    go_wp2_with fail
    refine (HP2.out _ HB2.out).mono ?_
    rintro e w3 ⟨rfl, hb⟩
    have HB3 := Lib.hid (HB2.out.trans (hb.mono HB2.out.size))
    clear hb
    by_cases hz : n1 = 0
    · subst hz
      have HR : Hid (RES = FA) := Lib.hid (by rw [HRES.out, if_neg (fun h => h.1 (HN1.out.2 rfl))])
      go_wp2_with fail
      go_loopw [61] (fun iv wr => ∃ i : Nat, i ≤ m ∧ iv = .int .i64 (i : Int) ∧ Hid (FND (rs.drop i) = FA) ∧ Hid (Below w.heap.size w wr)) (fun iv _ => m - (intOf iv).toNat)
      case atStart => exact ⟨0, Nat.zero_le _, rfl, HF0, HB3⟩
      case round =>
        obtain ⟨i, hi, rfl, HF, HB⟩ := hrel
        by_cases hlt : i < m
        · have e1 : decide ((i : Int) < (m : Int)) = true := decide_eq_true (by omega)
          have e2 : decide (i < m) = true := decide_eq_true hlt
          have i0 : (0 : Int) ≤ (i : Int) := by omega
          have i1 : (i : Int) < (m : Int) := by omega
          have hil : i < rs.length := by rw [HM.out]; exact hlt
          obtain ⟨b, off, e0, hbl, h0, h1, h2, h3, h4, h5⟩ := HRS.out i hil
          subst e0
          have x0 := (HB.out.cell (p := ⟨b, off + i * 6, none⟩) hbl).trans h0
          have x1 := (HB.out.cell (p := ⟨b, off + i * 6 + 1, none⟩) hbl).trans h1
          have x2 := (HB.out.cell (p := ⟨b, off + i * 6 + 2, none⟩) hbl).trans h2
          have x3 := (HB.out.cell (p := ⟨b, off + i * 6 + 3, none⟩) hbl).trans h3
          have x4 := (HB.out.cell (p := ⟨b, off + i * 6 + 4, none⟩) hbl).trans h4
          have x5 := (HB.out.cell (p := ⟨b, off + i * 6 + 5, none⟩) hbl).trans h5
          have hst := HST.out i hil
          rw [HF.out] at hst
          have HC := Lib.hid (HSP2.out _ (List.getElem_mem hil))
          obtain ⟨r, hr⟩ : ∃ r, rs[i] = r := ⟨_, rfl⟩
          rw [hr] at x0 x1 x2 x3 x4 x5 hst HC
          have hrv : ruV r = .agg #[.int .i64 r.who, .string (Mt.str r.dn), .string (Mt.str r.wh), .string (Mt.str r.att), .int .i64 r.rights, .bool r.allow] := rfl
          rw [hrv] at HC
          obtain ⟨z, hz⟩ : ∃ z, SPK r = z := ⟨_, rfl⟩
          rw [hz] at hst
          simp only [hz] at HC
          have HSTP := Lib.hid hst
          generalize Mt.str r.dn = DB at *
          generalize Mt.str r.wh = WB at *
          generalize Mt.str r.att = TB at *
          obtain ⟨wa, hwa⟩ : ∃ u, wr.alloc (.cells #[.int .i64 r.who, .string DB, .string WB, .string TB, .int .i64 r.rights, .bool r.allow] 54) = u := ⟨_, rfl⟩
          have hAa : Below wr.heap.size wr wa := by rw [← hwa]; exact (Below.refl _ wr).alloc (Nat.le_refl _) _
          have hxa : wa.heap[wr.heap.size]? = some (.cells #[.int .i64 r.who, .string DB, .string WB, .string TB, .int .i64 r.rights, .bool r.allow] 54) := by rw [← hwa]; exact heap_alloc_new wr _
          have HBa := Lib.hid (HB.out.trans (hAa.mono HB.out.size))
          obtain ⟨q0, q1, q2, q3, q4, q5⟩ := box6_of hxa
          have HTryz := Lib.hid (fun (u : World) (hu : Below wa.heap.size wa u) => (hu.block _ (lt_of_block hxa)).trans hxa)
          clear hbl h0 h1 h2 h3 h4 h5 hil hr hz hst hrv hAa hxa
          go_wp2_with fail
          refine (HC.out _ HBa.out).mono ?_
          rintro e w5 ⟨rfl, hb⟩
          have HB5 := Lib.hid (HBa.out.trans (hb.mono HBa.out.size))
          obtain ⟨y0, y1, y2, y3, y4, y5⟩ := box6_of (HTryz.out _ hb)
          clear hb x0 x1 x2 x3 x4 x5 q0 q1 q2 q3 q4 q5
          cases z with
          | true =>
            have HE : Hid (RES = r.allow) := Lib.hid (by rw [HR.out, HSTP.out]; rfl)
            go_wp2_with fail
            all_goals (go_ret; exact ⟨by rw [HE.out]; rfl, HB5.out⟩)
          | false =>
            have HE : Hid (FND (rs.drop (i + 1)) = FA) := Lib.hid (by rw [HSTP.out]; rfl)
            clear y0 y1 y2 y3 y4 y5
            go_wp2_with fail
            go_roundw
            case rel => exact ⟨i + 1, by omega, by go_num, HE, HB5⟩
            case measure => simp [intOf]; omega
        · obtain rfl : i = m := by omega
          have e1 : decide ((i : Int) < (i : Int)) = false := decide_eq_false (by omega)
          have e2 : decide (i < i) = false := decide_eq_false (by omega)
          have hall : rs.drop i = [] := List.drop_of_length_le (by rw [HM.out]; exact Nat.le_refl _)
          have HE : Hid (RES = false) := Lib.hid (by rw [HR.out, ← HF.out, hall]; exact HF9.out)
          clear hall
          go_wp2_with fail
          all_goals (go_ret; exact ⟨by rw [HE.out]; rfl, HB.out⟩)
    · have k1 : decide ((0 : Int) < (n1 : Int)) = true := decide_eq_true (by omega)
      have k2 : decide (0 < n1) = true := decide_eq_true (by omega)
      have HC0 := Lib.hid (HSA.out _ HB3.out)
      have HZN := Lib.hid hz
      clear hz
      go_wp2_with fail
      refine (HC0.out).mono ?_
      rintro e w4 ⟨rfl, hb⟩
      have HB4 := Lib.hid (HB3.out.trans (hb.mono HB3.out.size))
      clear hb
      cases SA with
      | true =>
        have HR : Hid (RES = true) := Lib.hid (by rw [HRES.out, if_pos ⟨fun h => HZN.out (HN1.out.1 h), rfl⟩])
        go_wp2_with fail
        all_goals (go_ret; exact ⟨by rw [HR.out]; rfl, HB4.out⟩)
      | false =>
      have HR : Hid (RES = FA) := Lib.hid (by rw [HRES.out, if_neg (fun h => absurd h.2 (by decide))])
      go_wp2_with fail
      go_loopw [61] (fun iv wr => ∃ i : Nat, i ≤ m ∧ iv = .int .i64 (i : Int) ∧ Hid (FND (rs.drop i) = FA) ∧ Hid (Below w.heap.size w wr)) (fun iv _ => m - (intOf iv).toNat)
      case atStart => exact ⟨0, Nat.zero_le _, rfl, HF0, HB4⟩
      case round =>
        obtain ⟨i, hi, rfl, HF, HB⟩ := hrel
        by_cases hlt : i < m
        · have e1 : decide ((i : Int) < (m : Int)) = true := decide_eq_true (by omega)
          have e2 : decide (i < m) = true := decide_eq_true hlt
          have i0 : (0 : Int) ≤ (i : Int) := by omega
          have i1 : (i : Int) < (m : Int) := by omega
          have hil : i < rs.length := by rw [HM.out]; exact hlt
          obtain ⟨b, off, e0, hbl, h0, h1, h2, h3, h4, h5⟩ := HRS.out i hil
          subst e0
          have x0 := (HB.out.cell (p := ⟨b, off + i * 6, none⟩) hbl).trans h0
          have x1 := (HB.out.cell (p := ⟨b, off + i * 6 + 1, none⟩) hbl).trans h1
          have x2 := (HB.out.cell (p := ⟨b, off + i * 6 + 2, none⟩) hbl).trans h2
          have x3 := (HB.out.cell (p := ⟨b, off + i * 6 + 3, none⟩) hbl).trans h3
          have x4 := (HB.out.cell (p := ⟨b, off + i * 6 + 4, none⟩) hbl).trans h4
          have x5 := (HB.out.cell (p := ⟨b, off + i * 6 + 5, none⟩) hbl).trans h5
          have hst := HST.out i hil
          rw [HF.out] at hst
          have HC := Lib.hid (HSP2.out _ (List.getElem_mem hil))
          obtain ⟨r, hr⟩ : ∃ r, rs[i] = r := ⟨_, rfl⟩
          rw [hr] at x0 x1 x2 x3 x4 x5 hst HC
          have hrv : ruV r = .agg #[.int .i64 r.who, .string (Mt.str r.dn), .string (Mt.str r.wh), .string (Mt.str r.att), .int .i64 r.rights, .bool r.allow] := rfl
          rw [hrv] at HC
          obtain ⟨z, hz⟩ : ∃ z, SPK r = z := ⟨_, rfl⟩
          rw [hz] at hst
          simp only [hz] at HC
          have HSTP := Lib.hid hst
          generalize Mt.str r.dn = DB at *
          generalize Mt.str r.wh = WB at *
          generalize Mt.str r.att = TB at *
          obtain ⟨wa, hwa⟩ : ∃ u, wr.alloc (.cells #[.int .i64 r.who, .string DB, .string WB, .string TB, .int .i64 r.rights, .bool r.allow] 54) = u := ⟨_, rfl⟩
          have hAa : Below wr.heap.size wr wa := by rw [← hwa]; exact (Below.refl _ wr).alloc (Nat.le_refl _) _
          have hxa : wa.heap[wr.heap.size]? = some (.cells #[.int .i64 r.who, .string DB, .string WB, .string TB, .int .i64 r.rights, .bool r.allow] 54) := by rw [← hwa]; exact heap_alloc_new wr _
          have HBa := Lib.hid (HB.out.trans (hAa.mono HB.out.size))
          obtain ⟨q0, q1, q2, q3, q4, q5⟩ := box6_of hxa
          have HTryz := Lib.hid (fun (u : World) (hu : Below wa.heap.size wa u) => (hu.block _ (lt_of_block hxa)).trans hxa)
          clear hbl h0 h1 h2 h3 h4 h5 hil hr hz hst hrv hAa hxa
          go_wp2_with fail
          refine (HC.out _ HBa.out).mono ?_
          rintro e w5 ⟨rfl, hb⟩
          have HB5 := Lib.hid (HBa.out.trans (hb.mono HBa.out.size))
          obtain ⟨y0, y1, y2, y3, y4, y5⟩ := box6_of (HTryz.out _ hb)
          clear hb x0 x1 x2 x3 x4 x5 q0 q1 q2 q3 q4 q5
          cases z with
          | true =>
            have HE : Hid (RES = r.allow) := Lib.hid (by rw [HR.out, HSTP.out]; rfl)
            go_wp2_with fail
            all_goals (go_ret; exact ⟨by rw [HE.out]; rfl, HB5.out⟩)
          | false =>
            have HE : Hid (FND (rs.drop (i + 1)) = FA) := Lib.hid (by rw [HSTP.out]; rfl)
            clear y0 y1 y2 y3 y4 y5
            go_wp2_with fail
            go_roundw
            case rel => exact ⟨i + 1, by omega, by go_num, HE, HB5⟩
            case measure => simp [intOf]; omega
        · obtain rfl : i = m := by omega
          have e1 : decide ((i : Int) < (i : Int)) = false := decide_eq_false (by omega)
          have e2 : decide (i < i) = false := decide_eq_false (by omega)
          have hall : rs.drop i = [] := List.drop_of_length_le (by rw [HM.out]; exact Nat.le_refl _)
          have HE : Hid (RES = false) := Lib.hid (by rw [HR.out, ← HF.out, hall]; exact HF9.out)
          clear hall
          go_wp2_with fail
          all_goals (go_ret; exact ⟨by rw [HE.out]; rfl, HB.out⟩)
end Go.Proofs.YtngdbhncafnliaaGreat
