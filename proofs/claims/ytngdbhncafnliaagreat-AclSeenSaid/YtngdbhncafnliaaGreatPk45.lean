/-
  Some texts of one proof, one behind the other.
-/
import Derived.Test.YtngdbhncafnliaaGreatPk38
import Derived.Test.YtngdbhncafnliaaGreatPk44
set_option linter.unusedVariables false
set_option linter.unusedSimpArgs false

/-
  A rule that is read.
-/
namespace Go.Proofs.YtngdbhncafnliaaGreat
open Go.RowKit

theorem box2_of22 {w : World} {b : Nat} {v0 v1 : Value} {T : TypeId} (h : w.heap[b]? = some (.cells #[v0, v1] T)) : w.cell? ⟨b, 0, none⟩ = some v0 ∧ w.cell? ⟨b, 1, none⟩ = some v1 :=
  ⟨by rw [cell_of_row _ _ _ _ _ _ h]; rfl, by rw [cell_of_row _ _ _ _ _ _ h]; rfl⟩
set_option maxRecDepth 100000 in
set_option maxHeartbeats 1000000 in
theorem isType_any {tv cv : Value} {s : Mt.Sc} (n : List UInt8) (hn : n.length ≤ 140737488351232) {w : World} (h : IsSc w tv cv s) :
    Calls Tryz.prog 40 #[.agg #[tv, cv], .string (Mt.str n)] w fun e w' => e = .returned (.bool (decide (0 ≤ Mt.tyAt s n))) ∧ Below w.heap.size w w' := by
  have HK := Lib.hid (fun (u : World) (hb : Below w.heap.size w u) => find13_any n hn (h.below hb))
  obtain ⟨Z, hZ⟩ : ∃ z, decide (0 ≤ Mt.tyAt s n) = z := ⟨_, rfl⟩
  simp only [hZ] at HK ⊢
  obtain ⟨ta, tcap, hv1, -, -⟩ := h.types
  obtain ⟨ca, ccap, hv2, -, -⟩ := h.classes
  obtain ⟨tn, htn⟩ : ∃ n, s.types.length = n := ⟨_, rfl⟩
  obtain ⟨cn, hcn⟩ : ∃ n, s.classes.length = n := ⟨_, rfl⟩
  rw [htn] at hv1
  rw [hcn] at hv2
  subst hv1 hv2
  obtain ⟨w1, hw1⟩ : ∃ u, w.alloc (.cells #[.slice ta tn tcap, .slice ca cn ccap] 35) = u := ⟨_, rfl⟩
  have hA : Below w.heap.size w w1 := by rw [← hw1]; exact (Below.refl _ w).alloc (Nat.le_refl _) _
  have hr : w1.heap[w.heap.size]? = some (.cells #[.slice ta tn tcap, .slice ca cn ccap] 35) := by rw [← hw1]; exact heap_alloc_new w _
  obtain ⟨p0, p1⟩ := box2_of22 hr
  have HA := Lib.hid hA
  generalize Mt.str n = NB at *
  generalize Mt.str (Mt.tyOf s n).name = TN at *
  generalize (Mt.tyOf s n).syn = sy at *
  generalize (Mt.tyOf s n).single = sg at *
  generalize (Mt.tyOf s n).oper = op at *
  clear h hn hZ hA hr htn hcn
  go_enter Tryz.func40, Tryz.ntmps40
  go_wp2_with fail
  refine (HK.out _ HA.out).mono ?_
  rintro e w2 ⟨rfl, hb⟩
  have HB2 := Lib.hid (HA.out.trans (hb.mono HA.out.size))
  have HB3 := Lib.hid (HB2.out.alloc HB2.out.size (.cells #[.string TN, .int .i64 sy, .bool sg, .bool op] 71))
  clear hb
  go_wp2_with fail
  all_goals (go_ret; exact ⟨rfl, HB3.out⟩)
def Mt.zeroRu : Mt.Ru := ⟨0, [], [], [], 0, false⟩
def rdV : Except Nat Mt.Ru → Value
  | .error e => .tuple #[ruV Mt.zeroRu, .int .i64 e]
  | .ok c => .tuple #[ruV c, .int .i64 0]
theorem Mt.keyL_err {l : List UInt8} {e : Nat} (h : Mt.keyL l = .error e) : 0 < e := by
  unfold Mt.keyL at h
  cases hd : Mt.dnL l with
  | error x => rw [hd] at h; cases h; exact Mt.dnL_err hd
  | ok d => rw [hd] at h; exact Mt.key_err h
/-- A rule that fits into memory. -/
def Mt.FitRu (r : Mt.Ru) : Prop := r.dn.length ≤ 140737488351232 ∧ r.wh.length ≤ 140737488351232 ∧ r.att.length ≤ 140737488351232
set_option maxRecDepth 100000 in
set_option maxHeartbeats 4000000 in
theorem read22_any {tv cv : Value} {s : Mt.Sc} (r : Mt.Ru) (hf : Mt.FitRu r) {w : World} (h : IsSc w tv cv s) :
    Calls Tryz.prog 24 #[.agg #[tv, cv], ruV r] w fun e w' => e = .returned (rdV (Mt.rdRu s r)) ∧ Below w.heap.size w w' := by
  have HT := Lib.hid (fun (u : World) (hb : Below w.heap.size w u) => isType_any r.att hf.2.2 (h.below hb))
  have HKD := Lib.hid (fun (u : World) => key_any (Mt.str r.dn) u (by rw [Mt.str_size]; have := hf.1; omega))
  have HKW := Lib.hid (fun (u : World) => key_any (Mt.str r.wh) u (by rw [Mt.str_size]; have := hf.2.1; omega))
  have HFO := Lib.hid (fun (u : World) => fold_any (Mt.str r.att) u (by rw [Mt.str_size]; have := hf.2.2; omega))
  rw [Mt.str_data] at HKD HKW HFO
  have hfo : Mt.str (r.att.map Mt.sm) = Mt.str (Mt.foldL r.att) := rfl
  rw [hfo] at HFO
  obtain ⟨RR, hRR⟩ : ∃ x, Mt.rdRu s r = x := ⟨_, rfl⟩
  rw [hRR]
  have hun := hRR
  unfold Mt.rdRu at hun
  have HRR := Lib.hid hun
  obtain ⟨ta, tcap, hv1, -, -⟩ := h.types
  obtain ⟨ca, ccap, hv2, -, -⟩ := h.classes
  obtain ⟨tn, htn⟩ : ∃ n, s.types.length = n := ⟨_, rfl⟩
  obtain ⟨cn, hcn⟩ : ∃ n, s.classes.length = n := ⟨_, rfl⟩
  rw [htn] at hv1
  rw [hcn] at hv2
  subst hv1 hv2
  obtain ⟨who, dn, wh, att, ri, al⟩ := r
  unfold ruV
  simp only at HT HKD HKW HFO HRR ⊢
  have HUD := isEmpty_str dn
  have HUA := isEmpty_str att
  generalize Mt.str dn = DB at *
  generalize Mt.str wh = WB at *
  generalize Mt.str att = AB at *
  obtain ⟨FB, hFB⟩ : ∃ x, Mt.str (Mt.foldL att) = x := ⟨_, rfl⟩
  rw [hFB] at HFO
  have HFB := Lib.hid hFB
  obtain ⟨ED, hED⟩ : ∃ b, decide (dn = []) = b := ⟨_, rfl⟩
  obtain ⟨EA, hEA⟩ : ∃ b, decide (att = []) = b := ⟨_, rfl⟩
  rw [hED] at HUD
  rw [hEA] at HUA
  have HED := Lib.hid hED
  have HEA := Lib.hid hEA
  obtain ⟨KT, hKT⟩ : ∃ b, decide (0 ≤ Mt.tyAt s att) = b := ⟨_, rfl⟩
  rw [hKT] at HT
  have HKT := Lib.hid hKT
  obtain ⟨w1, hw1⟩ : ∃ u, w.alloc (.cells #[.slice ta tn tcap, .slice ca cn ccap] 35) = u := ⟨_, rfl⟩
  have hA1 : Below w.heap.size w w1 := by rw [← hw1]; exact (Below.refl _ w).alloc (Nat.le_refl _) _
  have hx1 : w1.heap[w.heap.size]? = some (.cells #[.slice ta tn tcap, .slice ca cn ccap] 35) := by rw [← hw1]; exact heap_alloc_new w _
  have hs1 : w1.heap.size = w.heap.size + 1 := by rw [← hw1]; simp
  obtain ⟨w2, hw2⟩ : ∃ u, w1.alloc (.cells #[.int .i64 who, .string DB, .string WB, .string AB, .int .i64 ri, .bool al] 54) = u := ⟨_, rfl⟩
  have hA2 : Below w1.heap.size w1 w2 := by rw [← hw2]; exact (Below.refl _ w1).alloc (Nat.le_refl _) _
  have hx2 : w2.heap[w1.heap.size]? = some (.cells #[.int .i64 who, .string DB, .string WB, .string AB, .int .i64 ri, .bool al] 54) := by rw [← hw2]; exact heap_alloc_new w1 _
  have hs2 : w2.heap.size = w.heap.size + 2 := by rw [← hw2]; simp [hs1]
  obtain ⟨w3, hw3⟩ : ∃ u, w2.alloc (.cells #[.int .i64 0, .string ⟨#[]⟩, .string ⟨#[]⟩, .string ⟨#[]⟩, .int .i64 0, .bool false] 66) = u := ⟨_, rfl⟩
  have hA3 : Below w2.heap.size w2 w3 := by rw [← hw3]; exact (Below.refl _ w2).alloc (Nat.le_refl _) _
  have hx3 : w3.heap[w2.heap.size]? = some (.cells #[.int .i64 0, .string ⟨#[]⟩, .string ⟨#[]⟩, .string ⟨#[]⟩, .int .i64 0, .bool false] 66) := by rw [← hw3]; exact heap_alloc_new w2 _
  have hs3 : w3.heap.size = w.heap.size + 3 := by rw [← hw3]; simp [hs2]
  rw [hs1] at hx2
  rw [hs2] at hx3
  have HB3 := Lib.hid (hA1.trans ((hA2.mono (by omega)).trans (hA3.mono (by omega))))
  have HX : Hid (∀ u, Below w3.heap.size w3 u → u.heap[w.heap.size]? = some (.cells #[.slice ta tn tcap, .slice ca cn ccap] 35) ∧ u.heap[w.heap.size + 1]? = some (.cells #[.int .i64 who, .string DB, .string WB, .string AB, .int .i64 ri, .bool al] 54) ∧ u.heap[w.heap.size + 2]? = some (.cells #[.int .i64 0, .string ⟨#[]⟩, .string ⟨#[]⟩, .string ⟨#[]⟩, .int .i64 0, .bool false] 66)) := Lib.hid (fun u hu =>
    ⟨(hu.block w.heap.size (by omega)).trans ((hA3.block w.heap.size (by omega)).trans ((hA2.block w.heap.size (by omega)).trans hx1)), (hu.block (w.heap.size + 1) (by omega)).trans ((hA3.block (w.heap.size + 1) (by omega)).trans hx2), (hu.block (w.heap.size + 2) (by omega)).trans hx3⟩)
  clear h hf hRR hun hA1 hA2 hA3 hx1 hx2 hx3 htn hcn hfo hED hEA hKT hFB
  by_cases hw : who < 0 ∨ 4 < who
  · have hcase : decide (who < 0) = true ∨ (decide (who < 0) = false ∧ decide (4 < who) = true) := by
      rcases hw with h | h
      · exact .inl (decide_eq_true h)
      · by_cases h0 : who < 0
        · exact .inl (decide_eq_true h0)
        · exact .inr ⟨decide_eq_false h0, decide_eq_true h⟩
    have HW := Lib.hid hw
    clear hw
    obtain ⟨r1, r2, r3⟩ := HX.out w3 (Below.refl _ _)
    obtain ⟨q0, q1, q2, q3, q4, q5⟩ := box6_of r2
    obtain ⟨p0, p1⟩ := box2_of22 r1
    clear r1 r2 r3
    have HE : Hid (RR = .error 24) := Lib.hid (by
      rw [← HRR.out, if_pos HW.out])
    obtain ⟨r1, r2, r3⟩ := HX.out w3 (Below.refl _ _)
    obtain ⟨f0, f1, f2, f3, f4, f5⟩ := box6_frozen r3
    obtain ⟨z0, z1, z2, z3, z4, z5⟩ := box6_of r3
    have hk4 := row6_set r3 (.int .i64 0) (.string ⟨#[]⟩) (.string ⟨#[]⟩) (.string ⟨#[]⟩) (.int .i64 0) (.bool false)
    have hb4 := below6_set (b := w.heap.size + 2) HB3.out (by omega) (.int .i64 0) (.string ⟨#[]⟩) (.string ⟨#[]⟩) (.string ⟨#[]⟩) (.int .i64 0) (.bool false)
    obtain ⟨w9, hw9⟩ : ∃ u, ((((((w3.setCell ⟨w.heap.size + 2, 0, none⟩ (.int .i64 0)).setCell ⟨w.heap.size + 2, 1, none⟩ (.string ⟨#[]⟩)).setCell ⟨w.heap.size + 2, 2, none⟩ (.string ⟨#[]⟩)).setCell ⟨w.heap.size + 2, 3, none⟩ (.string ⟨#[]⟩)).setCell ⟨w.heap.size + 2, 4, none⟩ (.int .i64 0)).setCell ⟨w.heap.size + 2, 5, none⟩ (.bool false)) = u := ⟨_, rfl⟩
    rw [hw9] at hk4 hb4
    obtain ⟨c0, c1, c2, c3, c4, c5⟩ := box6_of hk4
    have HB9 := Lib.hid hb4
    clear hk4 hb4 r1 r2 r3
    rcases hcase with d1 | ⟨d1, d2⟩
    all_goals
      go_enter Tryz.func24, Tryz.ntmps24
      go_wp2_with fail
      refine bodyPost_ret (v := .tuple #[.agg #[.int .i64 0, .string ⟨#[]⟩, .string ⟨#[]⟩, .string ⟨#[]⟩, .int .i64 0, .bool false], .int .i64 24]) (by simp [results, Tryz.results24, go_sem, c0, c1, c2, c3, c4, c5]) rfl ⟨by rw [HE.out]; rfl, HB9.out⟩
  have d1 : decide (who < 0) = false := decide_eq_false (by omega)
  have d2 : decide (4 < who) = false := decide_eq_false (by omega)
  have HW := Lib.hid hw
  have d3 : decide (who < 3) = decide (who < 3) := rfl
  clear d3 hw
  cases hk : Mt.keyL dn with
  | error e1 =>
    rw [hk] at HKD
    unfold textV at HKD
    have hep := Mt.keyL_err hk
    have hei : ((e1 : Int) != 0) = true := by simp; omega
    have HK1 := Lib.hid hk
    clear hk hep
    obtain ⟨r1, r2, r3⟩ := HX.out w3 (Below.refl _ _)
    obtain ⟨q0, q1, q2, q3, q4, q5⟩ := box6_of r2
    obtain ⟨p0, p1⟩ := box2_of22 r1
    clear r1 r2 r3
    go_enter Tryz.func24, Tryz.ntmps24
    go_wp2_with fail
    refine (HKD.out _).mono ?_
    rintro e w4 ⟨rfl, hb⟩
    have HB4 := Lib.hid (HB3.out.trans (hb.mono HB3.out.size))
    have HY4 := Lib.hid hb
    clear hb p0 p1 q0 q1 q2 q3 q4 q5
    have HE : Hid (RR = .error e1) := Lib.hid (by
      rw [← HRR.out, if_neg HW.out, HK1.out])
    obtain ⟨r1, r2, r3⟩ := HX.out w4 HY4.out
    obtain ⟨f0, f1, f2, f3, f4, f5⟩ := box6_frozen r3
    obtain ⟨z0, z1, z2, z3, z4, z5⟩ := box6_of r3
    have hk4 := row6_set r3 (.int .i64 0) (.string ⟨#[]⟩) (.string ⟨#[]⟩) (.string ⟨#[]⟩) (.int .i64 0) (.bool false)
    have hb4 := below6_set (b := w.heap.size + 2) HB4.out (by omega) (.int .i64 0) (.string ⟨#[]⟩) (.string ⟨#[]⟩) (.string ⟨#[]⟩) (.int .i64 0) (.bool false)
    obtain ⟨w9, hw9⟩ : ∃ u, ((((((w4.setCell ⟨w.heap.size + 2, 0, none⟩ (.int .i64 0)).setCell ⟨w.heap.size + 2, 1, none⟩ (.string ⟨#[]⟩)).setCell ⟨w.heap.size + 2, 2, none⟩ (.string ⟨#[]⟩)).setCell ⟨w.heap.size + 2, 3, none⟩ (.string ⟨#[]⟩)).setCell ⟨w.heap.size + 2, 4, none⟩ (.int .i64 0)).setCell ⟨w.heap.size + 2, 5, none⟩ (.bool false)) = u := ⟨_, rfl⟩
    rw [hw9] at hk4 hb4
    obtain ⟨c0, c1, c2, c3, c4, c5⟩ := box6_of hk4
    have HB9 := Lib.hid hb4
    clear hk4 hb4 r1 r2 r3
    go_wp2_with fail
    refine bodyPost_ret (v := .tuple #[.agg #[.int .i64 0, .string ⟨#[]⟩, .string ⟨#[]⟩, .string ⟨#[]⟩, .int .i64 0, .bool false], .int .i64 e1]) (by simp [results, Tryz.results24, go_sem, c0, c1, c2, c3, c4, c5]) rfl ⟨by rw [HE.out]; rfl, HB9.out⟩
  | ok k1 =>
  rw [hk] at HKD
  unfold textV at HKD
  have HK1 := Lib.hid hk
  clear hk
  obtain ⟨KB, hKB⟩ : ∃ x, Mt.str k1 = x := ⟨_, rfl⟩
  simp only [hKB] at HKD
  have HKB := Lib.hid hKB
  clear hKB
  obtain ⟨r1, r2, r3⟩ := HX.out w3 (Below.refl _ _)
  obtain ⟨q0, q1, q2, q3, q4, q5⟩ := box6_of r2
  obtain ⟨p0, p1⟩ := box2_of22 r1
  clear r1 r2 r3
  go_enter Tryz.func24, Tryz.ntmps24
  go_wp2_with fail
  refine (HKD.out _).mono ?_
  rintro e w4 ⟨rfl, hb⟩
  have HB4 := Lib.hid (HB3.out.trans (hb.mono HB3.out.size))
  have HY4 := Lib.hid hb
  clear hb p0 p1 q0 q1 q2 q3 q4 q5
  by_cases hne : dn ≠ [] ∧ who < 3
  · have d4 : decide (who < 3) = true := decide_eq_true hne.2
    have hE0 : ED = false := by rw [← HED.out]; exact decide_eq_false hne.1
    subst hE0
    have HNE := Lib.hid hne
    clear hne
    obtain ⟨q0, q1, q2, q3, q4, q5⟩ := box6_of (HX.out w4 HY4.out).2.1
    have HE : Hid (RR = .error 2) := Lib.hid (by
      rw [← HRR.out, if_neg HW.out, HK1.out]
      simp only
      rw [if_pos HNE.out])
    obtain ⟨r1, r2, r3⟩ := HX.out w4 HY4.out
    obtain ⟨f0, f1, f2, f3, f4, f5⟩ := box6_frozen r3
    obtain ⟨z0, z1, z2, z3, z4, z5⟩ := box6_of r3
    have hk4 := row6_set r3 (.int .i64 0) (.string ⟨#[]⟩) (.string ⟨#[]⟩) (.string ⟨#[]⟩) (.int .i64 0) (.bool false)
    have hb4 := below6_set (b := w.heap.size + 2) HB4.out (by omega) (.int .i64 0) (.string ⟨#[]⟩) (.string ⟨#[]⟩) (.string ⟨#[]⟩) (.int .i64 0) (.bool false)
    obtain ⟨w9, hw9⟩ : ∃ u, ((((((w4.setCell ⟨w.heap.size + 2, 0, none⟩ (.int .i64 0)).setCell ⟨w.heap.size + 2, 1, none⟩ (.string ⟨#[]⟩)).setCell ⟨w.heap.size + 2, 2, none⟩ (.string ⟨#[]⟩)).setCell ⟨w.heap.size + 2, 3, none⟩ (.string ⟨#[]⟩)).setCell ⟨w.heap.size + 2, 4, none⟩ (.int .i64 0)).setCell ⟨w.heap.size + 2, 5, none⟩ (.bool false)) = u := ⟨_, rfl⟩
    rw [hw9] at hk4 hb4
    obtain ⟨c0, c1, c2, c3, c4, c5⟩ := box6_of hk4
    have HB9 := Lib.hid hb4
    clear hk4 hb4 r1 r2 r3
    go_wp2_with fail
    refine bodyPost_ret (v := .tuple #[.agg #[.int .i64 0, .string ⟨#[]⟩, .string ⟨#[]⟩, .string ⟨#[]⟩, .int .i64 0, .bool false], .int .i64 2]) (by simp [results, Tryz.results24, go_sem, c0, c1, c2, c3, c4, c5]) rfl ⟨by rw [HE.out]; rfl, HB9.out⟩
  have hcs : ED = true ∨ (ED = false ∧ decide (who < 3) = false) := by
    by_cases h0 : dn = []
    · exact .inl (by rw [← HED.out]; exact decide_eq_true h0)
    · exact .inr ⟨by rw [← HED.out]; exact decide_eq_false h0, decide_eq_false (fun h3 => hne ⟨h0, h3⟩)⟩
  have HNE := Lib.hid hne
  clear hne
  go_upto_region 6 with fail
  obtain ⟨q0, q1, q2, q3, q4, q5⟩ := box6_of (HX.out w4 HY4.out).2.1
  have HCUT : Hid (ED = true ∨ (ED = false ∧ decide (who < 3) = false)) := Lib.hid hcs
  clear hcs
  rcases HCUT.out with rfl | ⟨rfl, d4⟩
  · cases hk2 : Mt.keyL wh with
    | error e2 =>
      rw [hk2] at HKW
      unfold textV at HKW
      have hep := Mt.keyL_err hk2
      have hei2 : ((e2 : Int) != 0) = true := by simp; omega
      have HK2 := Lib.hid hk2
      clear hk2 hep
      go_wp2_with fail
      refine (HKW.out _).mono ?_
      rintro e w5 ⟨rfl, hb⟩
      have HB5 := Lib.hid (HB4.out.trans (hb.mono HB4.out.size))
      have HY5 := Lib.hid (HY4.out.trans (hb.mono HY4.out.size))
      clear hb q0 q1 q2 q3 q4 q5
      have HE : Hid (RR = .error e2) := Lib.hid (by
        rw [← HRR.out, if_neg HW.out, HK1.out]
        simp only
        rw [if_neg HNE.out, HK2.out])
      obtain ⟨r1, r2, r3⟩ := HX.out w5 HY5.out
      obtain ⟨f0, f1, f2, f3, f4, f5⟩ := box6_frozen r3
      obtain ⟨z0, z1, z2, z3, z4, z5⟩ := box6_of r3
      have hk4 := row6_set r3 (.int .i64 0) (.string ⟨#[]⟩) (.string ⟨#[]⟩) (.string ⟨#[]⟩) (.int .i64 0) (.bool false)
      have hb4 := below6_set (b := w.heap.size + 2) HB5.out (by omega) (.int .i64 0) (.string ⟨#[]⟩) (.string ⟨#[]⟩) (.string ⟨#[]⟩) (.int .i64 0) (.bool false)
      obtain ⟨w9, hw9⟩ : ∃ u, ((((((w5.setCell ⟨w.heap.size + 2, 0, none⟩ (.int .i64 0)).setCell ⟨w.heap.size + 2, 1, none⟩ (.string ⟨#[]⟩)).setCell ⟨w.heap.size + 2, 2, none⟩ (.string ⟨#[]⟩)).setCell ⟨w.heap.size + 2, 3, none⟩ (.string ⟨#[]⟩)).setCell ⟨w.heap.size + 2, 4, none⟩ (.int .i64 0)).setCell ⟨w.heap.size + 2, 5, none⟩ (.bool false)) = u := ⟨_, rfl⟩
      rw [hw9] at hk4 hb4
      obtain ⟨c0, c1, c2, c3, c4, c5⟩ := box6_of hk4
      have HB9 := Lib.hid hb4
      clear hk4 hb4 r1 r2 r3
      go_wp2_with fail
      refine bodyPost_ret (v := .tuple #[.agg #[.int .i64 0, .string ⟨#[]⟩, .string ⟨#[]⟩, .string ⟨#[]⟩, .int .i64 0, .bool false], .int .i64 e2]) (by simp [results, Tryz.results24, go_sem, c0, c1, c2, c3, c4, c5]) rfl ⟨by rw [HE.out]; rfl, HB9.out⟩
    | ok k2 =>
      rw [hk2] at HKW
      unfold textV at HKW
      have HK2 := Lib.hid hk2
      clear hk2
      obtain ⟨VB, hVB⟩ : ∃ x, Mt.str k2 = x := ⟨_, rfl⟩
      simp only [hVB] at HKW
      have HVB := Lib.hid hVB
      clear hVB
      go_wp2_with fail
      refine (HKW.out _).mono ?_
      rintro e w5 ⟨rfl, hb⟩
      have HB5 := Lib.hid (HB4.out.trans (hb.mono HB4.out.size))
      have HY5 := Lib.hid (HY4.out.trans (hb.mono HY4.out.size))
      clear hb q0 q1 q2 q3 q4 q5
      by_cases ha : att ≠ [] ∧ Mt.tyAt s att < 0
      · have hE0 : EA = false := by rw [← HEA.out]; exact decide_eq_false ha.1
        have hT0 : KT = false := by rw [← HKT.out]; exact decide_eq_false (by omega)
        subst hE0 hT0
        have HAT := Lib.hid ha
        clear ha
        obtain ⟨p0, p1⟩ := box2_of22 (HX.out w5 HY5.out).1
        obtain ⟨q0, q1, q2, q3, q4, q5⟩ := box6_of (HX.out w5 HY5.out).2.1
        go_wp2_with fail
        refine (HT.out _ HB5.out).mono ?_
        rintro e w6 ⟨rfl, hb⟩
        have HB6 := Lib.hid (HB5.out.trans (hb.mono HB5.out.size))
        have HY6 := Lib.hid (HY5.out.trans (hb.mono HY5.out.size))
        clear hb p0 p1 q0 q1 q2 q3 q4 q5
        have HE : Hid (RR = .error 20) := Lib.hid (by
          rw [← HRR.out, if_neg HW.out, HK1.out]
          simp only
          rw [if_neg HNE.out, HK2.out]
          simp only
          rw [if_pos HAT.out])
        obtain ⟨r1, r2, r3⟩ := HX.out w6 HY6.out
        obtain ⟨f0, f1, f2, f3, f4, f5⟩ := box6_frozen r3
        obtain ⟨z0, z1, z2, z3, z4, z5⟩ := box6_of r3
        have hk4 := row6_set r3 (.int .i64 0) (.string ⟨#[]⟩) (.string ⟨#[]⟩) (.string ⟨#[]⟩) (.int .i64 0) (.bool false)
        have hb4 := below6_set (b := w.heap.size + 2) HB6.out (by omega) (.int .i64 0) (.string ⟨#[]⟩) (.string ⟨#[]⟩) (.string ⟨#[]⟩) (.int .i64 0) (.bool false)
        obtain ⟨w9, hw9⟩ : ∃ u, ((((((w6.setCell ⟨w.heap.size + 2, 0, none⟩ (.int .i64 0)).setCell ⟨w.heap.size + 2, 1, none⟩ (.string ⟨#[]⟩)).setCell ⟨w.heap.size + 2, 2, none⟩ (.string ⟨#[]⟩)).setCell ⟨w.heap.size + 2, 3, none⟩ (.string ⟨#[]⟩)).setCell ⟨w.heap.size + 2, 4, none⟩ (.int .i64 0)).setCell ⟨w.heap.size + 2, 5, none⟩ (.bool false)) = u := ⟨_, rfl⟩
        rw [hw9] at hk4 hb4
        obtain ⟨c0, c1, c2, c3, c4, c5⟩ := box6_of hk4
        have HB9 := Lib.hid hb4
        clear hk4 hb4 r1 r2 r3
        go_wp2_with fail
        refine bodyPost_ret (v := .tuple #[.agg #[.int .i64 0, .string ⟨#[]⟩, .string ⟨#[]⟩, .string ⟨#[]⟩, .int .i64 0, .bool false], .int .i64 20]) (by simp [results, Tryz.results24, go_sem, c0, c1, c2, c3, c4, c5]) rfl ⟨by rw [HE.out]; rfl, HB9.out⟩
      have hcs2 : EA = true ∨ (EA = false ∧ KT = true) := by
        by_cases h0 : att = []
        · exact .inl (by rw [← HEA.out]; exact decide_eq_true h0)
        · exact .inr ⟨by rw [← HEA.out]; exact decide_eq_false h0, by rw [← HKT.out]; exact decide_eq_true (by rcases Int.lt_or_le (Mt.tyAt s att) 0 with h | h; exact absurd ⟨h0, h⟩ ha; exact h)⟩
      have HAT := Lib.hid ha
      clear ha
      have HWAY : Hid (∀ (w6 : World), Below w5.heap.size w5 w6 → Below w.heap.size w w6 ∧ Below w3.heap.size w3 w6) := Lib.hid (fun u hu => ⟨HB5.out.trans (hu.mono HB5.out.size), HY5.out.trans (hu.mono HY5.out.size)⟩)
      have hway2 : ∃ wz, Below w5.heap.size w5 wz := ⟨w5, Below.refl _ _⟩
      clear hway2
      rcases hcs2 with rfl | ⟨rfl, rfl⟩
      · obtain ⟨w6, rfl⟩ : ∃ u, u = w5 := ⟨_, rfl⟩
        have HB6 := HB5
        have HY6 := HY5
        obtain ⟨q0, q1, q2, q3, q4, q5⟩ := box6_of (HX.out w6 HY6.out).2.1
        by_cases hr : ri < 1 ∨ 15 < ri
        · have hcase : decide (ri < 1) = true ∨ (decide (ri < 1) = false ∧ decide (15 < ri) = true) := by
            rcases hr with h | h
            · exact .inl (decide_eq_true h)
            · by_cases h0 : ri < 1
              · exact .inl (decide_eq_true h0)
              · exact .inr ⟨decide_eq_false h0, decide_eq_true h⟩
          have HRI := Lib.hid hr
          clear hr
          have HE : Hid (RR = .error 23) := Lib.hid (by
            rw [← HRR.out, if_neg HW.out, HK1.out]
            simp only
            rw [if_neg HNE.out, HK2.out]
            simp only
            rw [if_neg HAT.out, if_pos HRI.out])
          obtain ⟨r1, r2, r3⟩ := HX.out w6 HY6.out
          obtain ⟨f0, f1, f2, f3, f4, f5⟩ := box6_frozen r3
          obtain ⟨z0, z1, z2, z3, z4, z5⟩ := box6_of r3
          have hk4 := row6_set r3 (.int .i64 0) (.string ⟨#[]⟩) (.string ⟨#[]⟩) (.string ⟨#[]⟩) (.int .i64 0) (.bool false)
          have hb4 := below6_set (b := w.heap.size + 2) HB6.out (by omega) (.int .i64 0) (.string ⟨#[]⟩) (.string ⟨#[]⟩) (.string ⟨#[]⟩) (.int .i64 0) (.bool false)
          obtain ⟨w9, hw9⟩ : ∃ u, ((((((w6.setCell ⟨w.heap.size + 2, 0, none⟩ (.int .i64 0)).setCell ⟨w.heap.size + 2, 1, none⟩ (.string ⟨#[]⟩)).setCell ⟨w.heap.size + 2, 2, none⟩ (.string ⟨#[]⟩)).setCell ⟨w.heap.size + 2, 3, none⟩ (.string ⟨#[]⟩)).setCell ⟨w.heap.size + 2, 4, none⟩ (.int .i64 0)).setCell ⟨w.heap.size + 2, 5, none⟩ (.bool false)) = u := ⟨_, rfl⟩
          rw [hw9] at hk4 hb4
          obtain ⟨c0, c1, c2, c3, c4, c5⟩ := box6_of hk4
          have HB9 := Lib.hid hb4
          clear hk4 hb4 r1 r2 r3
          rcases hcase with d5 | ⟨d5, d6⟩
          all_goals
            go_wp2_with fail
            refine bodyPost_ret (v := .tuple #[.agg #[.int .i64 0, .string ⟨#[]⟩, .string ⟨#[]⟩, .string ⟨#[]⟩, .int .i64 0, .bool false], .int .i64 23]) (by simp [results, Tryz.results24, go_sem, c0, c1, c2, c3, c4, c5]) rfl ⟨by rw [HE.out]; rfl, HB9.out⟩
        have d5 : decide (ri < 1) = false := decide_eq_false (by omega)
        have d6 : decide (15 < ri) = false := decide_eq_false (by omega)
        have HRI := Lib.hid hr
        clear hr
        have HE : Hid (RR = .ok ⟨who, k1, k2, Mt.foldL att, ri, al⟩) := Lib.hid (by
          rw [← HRR.out, if_neg HW.out, HK1.out]
          simp only
          rw [if_neg HNE.out, HK2.out]
          simp only
          rw [if_neg HAT.out, if_neg HRI.out])
        go_wp2_with fail
        refine (HFO.out _).mono ?_
        rintro e w7 ⟨rfl, hb⟩
        have HB7 := Lib.hid (HB6.out.trans (hb.mono HB6.out.size))
        have HY7 := Lib.hid (HY6.out.trans (hb.mono HY6.out.size))
        clear hb q0 q1 q2 q3 q4 q5
        obtain ⟨r1, r2, r3⟩ := HX.out w7 HY7.out
        obtain ⟨f0, f1, f2, f3, f4, f5⟩ := box6_frozen r2
        obtain ⟨q0, q1, q2, q3, q4, q5⟩ := box6_of r2
        have hk8 := heap_setCell_same _ (w.heap.size + 1) 3 _ 54 (.string FB) (heap_setCell_same _ (w.heap.size + 1) 2 _ 54 (.string VB) (heap_setCell_same w7 (w.heap.size + 1) 1 _ 54 (.string KB) r2))
        have hb8 := ((HB7.out.setCell (p := ⟨w.heap.size + 1, 1, none⟩) (by simp) (.string KB)).setCell (p := ⟨w.heap.size + 1, 2, none⟩) (by simp) (.string VB)).setCell (p := ⟨w.heap.size + 1, 3, none⟩) (by simp) (.string FB)
        obtain ⟨w8, hw8⟩ : ∃ u, ((w7.setCell ⟨w.heap.size + 1, 1, none⟩ (.string KB)).setCell ⟨w.heap.size + 1, 2, none⟩ (.string VB)).setCell ⟨w.heap.size + 1, 3, none⟩ (.string FB) = u := ⟨_, rfl⟩
        have hz8 : w8.heap[w.heap.size + 2]? = some (.cells #[.int .i64 0, .string ⟨#[]⟩, .string ⟨#[]⟩, .string ⟨#[]⟩, .int .i64 0, .bool false] 66) := by
          rw [← hw8, heap_setCell_other _ _ _ _ (by show w.heap.size + 2 ≠ w.heap.size + 1; omega), heap_setCell_other _ _ _ _ (by show w.heap.size + 2 ≠ w.heap.size + 1; omega), heap_setCell_other _ _ _ _ (by show w.heap.size + 2 ≠ w.heap.size + 1; omega)]
          exact r3
        rw [hw8] at hk8 hb8
        have hk8' : w8.heap[w.heap.size + 1]? = some (.cells #[.int .i64 who, .string KB, .string VB, .string FB, .int .i64 ri, .bool al] 54) := hk8
        have HB8 := Lib.hid hb8
        have HK8 := Lib.hid (And.intro hk8' hz8)
        clear r1 r2 r3 hk8 hk8' hb8 hz8
        go_upto_region 16 with fail
        clear q0 q1 q2 q3 q4 q5 f0 f1 f2 f3 f4 f5
        obtain ⟨q0, q1, q2, q3, q4, q5⟩ := box6_of HK8.out.1
        obtain ⟨f0, f1, f2, f3, f4, f5⟩ := box6_frozen HK8.out.2
        obtain ⟨z0, z1, z2, z3, z4, z5⟩ := box6_of HK8.out.2
        have hk4 := row6_set HK8.out.2 (.int .i64 who) (.string KB) (.string VB) (.string FB) (.int .i64 ri) (.bool al)
        have hb4 := below6_set (b := w.heap.size + 2) HB8.out (by omega) (.int .i64 who) (.string KB) (.string VB) (.string FB) (.int .i64 ri) (.bool al)
        obtain ⟨w9, hw9⟩ : ∃ u, ((((((w8.setCell ⟨w.heap.size + 2, 0, none⟩ (.int .i64 who)).setCell ⟨w.heap.size + 2, 1, none⟩ (.string KB)).setCell ⟨w.heap.size + 2, 2, none⟩ (.string VB)).setCell ⟨w.heap.size + 2, 3, none⟩ (.string FB)).setCell ⟨w.heap.size + 2, 4, none⟩ (.int .i64 ri)).setCell ⟨w.heap.size + 2, 5, none⟩ (.bool al)) = u := ⟨_, rfl⟩
        rw [hw9] at hk4 hb4
        obtain ⟨c0, c1, c2, c3, c4, c5⟩ := box6_of hk4
        have HB9 := Lib.hid hb4
        clear hk4 hb4
        go_wp2_with fail
        refine bodyPost_ret (v := .tuple #[.agg #[.int .i64 who, .string KB, .string VB, .string FB, .int .i64 ri, .bool al], .int .i64 0]) (by simp [results, Tryz.results24, go_sem, c0, c1, c2, c3, c4, c5]) rfl ⟨by rw [HE.out, ← HKB.out, ← HVB.out, ← HFB.out]; rfl, HB9.out⟩
      · obtain ⟨p0, p1⟩ := box2_of22 (HX.out w5 HY5.out).1
        obtain ⟨q0, q1, q2, q3, q4, q5⟩ := box6_of (HX.out w5 HY5.out).2.1
        go_wp2_with fail
        refine (HT.out _ HB5.out).mono ?_
        rintro e w6 ⟨rfl, hb⟩
        have HB6 := Lib.hid (HB5.out.trans (hb.mono HB5.out.size))
        have HY6 := Lib.hid (HY5.out.trans (hb.mono HY5.out.size))
        clear hb p0 p1 q0 q1 q2 q3 q4 q5
        obtain ⟨q0, q1, q2, q3, q4, q5⟩ := box6_of (HX.out w6 HY6.out).2.1
        by_cases hr : ri < 1 ∨ 15 < ri
        · have hcase : decide (ri < 1) = true ∨ (decide (ri < 1) = false ∧ decide (15 < ri) = true) := by
            rcases hr with h | h
            · exact .inl (decide_eq_true h)
            · by_cases h0 : ri < 1
              · exact .inl (decide_eq_true h0)
              · exact .inr ⟨decide_eq_false h0, decide_eq_true h⟩
          have HRI := Lib.hid hr
          clear hr
          have HE : Hid (RR = .error 23) := Lib.hid (by
            rw [← HRR.out, if_neg HW.out, HK1.out]
            simp only
            rw [if_neg HNE.out, HK2.out]
            simp only
            rw [if_neg HAT.out, if_pos HRI.out])
          obtain ⟨r1, r2, r3⟩ := HX.out w6 HY6.out
          obtain ⟨f0, f1, f2, f3, f4, f5⟩ := box6_frozen r3
          obtain ⟨z0, z1, z2, z3, z4, z5⟩ := box6_of r3
          have hk4 := row6_set r3 (.int .i64 0) (.string ⟨#[]⟩) (.string ⟨#[]⟩) (.string ⟨#[]⟩) (.int .i64 0) (.bool false)
          have hb4 := below6_set (b := w.heap.size + 2) HB6.out (by omega) (.int .i64 0) (.string ⟨#[]⟩) (.string ⟨#[]⟩) (.string ⟨#[]⟩) (.int .i64 0) (.bool false)
          obtain ⟨w9, hw9⟩ : ∃ u, ((((((w6.setCell ⟨w.heap.size + 2, 0, none⟩ (.int .i64 0)).setCell ⟨w.heap.size + 2, 1, none⟩ (.string ⟨#[]⟩)).setCell ⟨w.heap.size + 2, 2, none⟩ (.string ⟨#[]⟩)).setCell ⟨w.heap.size + 2, 3, none⟩ (.string ⟨#[]⟩)).setCell ⟨w.heap.size + 2, 4, none⟩ (.int .i64 0)).setCell ⟨w.heap.size + 2, 5, none⟩ (.bool false)) = u := ⟨_, rfl⟩
          rw [hw9] at hk4 hb4
          obtain ⟨c0, c1, c2, c3, c4, c5⟩ := box6_of hk4
          have HB9 := Lib.hid hb4
          clear hk4 hb4 r1 r2 r3
          rcases hcase with d5 | ⟨d5, d6⟩
          all_goals
            go_wp2_with fail
            refine bodyPost_ret (v := .tuple #[.agg #[.int .i64 0, .string ⟨#[]⟩, .string ⟨#[]⟩, .string ⟨#[]⟩, .int .i64 0, .bool false], .int .i64 23]) (by simp [results, Tryz.results24, go_sem, c0, c1, c2, c3, c4, c5]) rfl ⟨by rw [HE.out]; rfl, HB9.out⟩
        have d5 : decide (ri < 1) = false := decide_eq_false (by omega)
        have d6 : decide (15 < ri) = false := decide_eq_false (by omega)
        have HRI := Lib.hid hr
        clear hr
        have HE : Hid (RR = .ok ⟨who, k1, k2, Mt.foldL att, ri, al⟩) := Lib.hid (by
          rw [← HRR.out, if_neg HW.out, HK1.out]
          simp only
          rw [if_neg HNE.out, HK2.out]
          simp only
          rw [if_neg HAT.out, if_neg HRI.out])
        go_wp2_with fail
        refine (HFO.out _).mono ?_
        rintro e w7 ⟨rfl, hb⟩
        have HB7 := Lib.hid (HB6.out.trans (hb.mono HB6.out.size))
        have HY7 := Lib.hid (HY6.out.trans (hb.mono HY6.out.size))
        clear hb q0 q1 q2 q3 q4 q5
        obtain ⟨r1, r2, r3⟩ := HX.out w7 HY7.out
        obtain ⟨f0, f1, f2, f3, f4, f5⟩ := box6_frozen r2
        obtain ⟨q0, q1, q2, q3, q4, q5⟩ := box6_of r2
        have hk8 := heap_setCell_same _ (w.heap.size + 1) 3 _ 54 (.string FB) (heap_setCell_same _ (w.heap.size + 1) 2 _ 54 (.string VB) (heap_setCell_same w7 (w.heap.size + 1) 1 _ 54 (.string KB) r2))
        have hb8 := ((HB7.out.setCell (p := ⟨w.heap.size + 1, 1, none⟩) (by simp) (.string KB)).setCell (p := ⟨w.heap.size + 1, 2, none⟩) (by simp) (.string VB)).setCell (p := ⟨w.heap.size + 1, 3, none⟩) (by simp) (.string FB)
        obtain ⟨w8, hw8⟩ : ∃ u, ((w7.setCell ⟨w.heap.size + 1, 1, none⟩ (.string KB)).setCell ⟨w.heap.size + 1, 2, none⟩ (.string VB)).setCell ⟨w.heap.size + 1, 3, none⟩ (.string FB) = u := ⟨_, rfl⟩
        have hz8 : w8.heap[w.heap.size + 2]? = some (.cells #[.int .i64 0, .string ⟨#[]⟩, .string ⟨#[]⟩, .string ⟨#[]⟩, .int .i64 0, .bool false] 66) := by
          rw [← hw8, heap_setCell_other _ _ _ _ (by show w.heap.size + 2 ≠ w.heap.size + 1; omega), heap_setCell_other _ _ _ _ (by show w.heap.size + 2 ≠ w.heap.size + 1; omega), heap_setCell_other _ _ _ _ (by show w.heap.size + 2 ≠ w.heap.size + 1; omega)]
          exact r3
        rw [hw8] at hk8 hb8
        have hk8' : w8.heap[w.heap.size + 1]? = some (.cells #[.int .i64 who, .string KB, .string VB, .string FB, .int .i64 ri, .bool al] 54) := hk8
        have HB8 := Lib.hid hb8
        have HK8 := Lib.hid (And.intro hk8' hz8)
        clear r1 r2 r3 hk8 hk8' hb8 hz8
        go_upto_region 16 with fail
        clear q0 q1 q2 q3 q4 q5 f0 f1 f2 f3 f4 f5
        obtain ⟨q0, q1, q2, q3, q4, q5⟩ := box6_of HK8.out.1
        obtain ⟨f0, f1, f2, f3, f4, f5⟩ := box6_frozen HK8.out.2
        obtain ⟨z0, z1, z2, z3, z4, z5⟩ := box6_of HK8.out.2
        have hk4 := row6_set HK8.out.2 (.int .i64 who) (.string KB) (.string VB) (.string FB) (.int .i64 ri) (.bool al)
        have hb4 := below6_set (b := w.heap.size + 2) HB8.out (by omega) (.int .i64 who) (.string KB) (.string VB) (.string FB) (.int .i64 ri) (.bool al)
        obtain ⟨w9, hw9⟩ : ∃ u, ((((((w8.setCell ⟨w.heap.size + 2, 0, none⟩ (.int .i64 who)).setCell ⟨w.heap.size + 2, 1, none⟩ (.string KB)).setCell ⟨w.heap.size + 2, 2, none⟩ (.string VB)).setCell ⟨w.heap.size + 2, 3, none⟩ (.string FB)).setCell ⟨w.heap.size + 2, 4, none⟩ (.int .i64 ri)).setCell ⟨w.heap.size + 2, 5, none⟩ (.bool al)) = u := ⟨_, rfl⟩
        rw [hw9] at hk4 hb4
        obtain ⟨c0, c1, c2, c3, c4, c5⟩ := box6_of hk4
        have HB9 := Lib.hid hb4
        clear hk4 hb4
        go_wp2_with fail
        refine bodyPost_ret (v := .tuple #[.agg #[.int .i64 who, .string KB, .string VB, .string FB, .int .i64 ri, .bool al], .int .i64 0]) (by simp [results, Tryz.results24, go_sem, c0, c1, c2, c3, c4, c5]) rfl ⟨by rw [HE.out, ← HKB.out, ← HVB.out, ← HFB.out]; rfl, HB9.out⟩
  · cases hk2 : Mt.keyL wh with
    | error e2 =>
      rw [hk2] at HKW
      unfold textV at HKW
      have hep := Mt.keyL_err hk2
      have hei2 : ((e2 : Int) != 0) = true := by simp; omega
      have HK2 := Lib.hid hk2
      clear hk2 hep
      go_wp2_with fail
      refine (HKW.out _).mono ?_
      rintro e w5 ⟨rfl, hb⟩
      have HB5 := Lib.hid (HB4.out.trans (hb.mono HB4.out.size))
      have HY5 := Lib.hid (HY4.out.trans (hb.mono HY4.out.size))
      clear hb q0 q1 q2 q3 q4 q5
      have HE : Hid (RR = .error e2) := Lib.hid (by
        rw [← HRR.out, if_neg HW.out, HK1.out]
        simp only
        rw [if_neg HNE.out, HK2.out])
      obtain ⟨r1, r2, r3⟩ := HX.out w5 HY5.out
      obtain ⟨f0, f1, f2, f3, f4, f5⟩ := box6_frozen r3
      obtain ⟨z0, z1, z2, z3, z4, z5⟩ := box6_of r3
      have hk4 := row6_set r3 (.int .i64 0) (.string ⟨#[]⟩) (.string ⟨#[]⟩) (.string ⟨#[]⟩) (.int .i64 0) (.bool false)
      have hb4 := below6_set (b := w.heap.size + 2) HB5.out (by omega) (.int .i64 0) (.string ⟨#[]⟩) (.string ⟨#[]⟩) (.string ⟨#[]⟩) (.int .i64 0) (.bool false)
      obtain ⟨w9, hw9⟩ : ∃ u, ((((((w5.setCell ⟨w.heap.size + 2, 0, none⟩ (.int .i64 0)).setCell ⟨w.heap.size + 2, 1, none⟩ (.string ⟨#[]⟩)).setCell ⟨w.heap.size + 2, 2, none⟩ (.string ⟨#[]⟩)).setCell ⟨w.heap.size + 2, 3, none⟩ (.string ⟨#[]⟩)).setCell ⟨w.heap.size + 2, 4, none⟩ (.int .i64 0)).setCell ⟨w.heap.size + 2, 5, none⟩ (.bool false)) = u := ⟨_, rfl⟩
      rw [hw9] at hk4 hb4
      obtain ⟨c0, c1, c2, c3, c4, c5⟩ := box6_of hk4
      have HB9 := Lib.hid hb4
      clear hk4 hb4 r1 r2 r3
      go_wp2_with fail
      refine bodyPost_ret (v := .tuple #[.agg #[.int .i64 0, .string ⟨#[]⟩, .string ⟨#[]⟩, .string ⟨#[]⟩, .int .i64 0, .bool false], .int .i64 e2]) (by simp [results, Tryz.results24, go_sem, c0, c1, c2, c3, c4, c5]) rfl ⟨by rw [HE.out]; rfl, HB9.out⟩
    | ok k2 =>
      rw [hk2] at HKW
      unfold textV at HKW
      have HK2 := Lib.hid hk2
      clear hk2
      obtain ⟨VB, hVB⟩ : ∃ x, Mt.str k2 = x := ⟨_, rfl⟩
      simp only [hVB] at HKW
      have HVB := Lib.hid hVB
      clear hVB
      go_wp2_with fail
      refine (HKW.out _).mono ?_
      rintro e w5 ⟨rfl, hb⟩
      have HB5 := Lib.hid (HB4.out.trans (hb.mono HB4.out.size))
      have HY5 := Lib.hid (HY4.out.trans (hb.mono HY4.out.size))
      clear hb q0 q1 q2 q3 q4 q5
      by_cases ha : att ≠ [] ∧ Mt.tyAt s att < 0
      · have hE0 : EA = false := by rw [← HEA.out]; exact decide_eq_false ha.1
        have hT0 : KT = false := by rw [← HKT.out]; exact decide_eq_false (by omega)
        subst hE0 hT0
        have HAT := Lib.hid ha
        clear ha
        obtain ⟨p0, p1⟩ := box2_of22 (HX.out w5 HY5.out).1
        obtain ⟨q0, q1, q2, q3, q4, q5⟩ := box6_of (HX.out w5 HY5.out).2.1
        go_wp2_with fail
        refine (HT.out _ HB5.out).mono ?_
        rintro e w6 ⟨rfl, hb⟩
        have HB6 := Lib.hid (HB5.out.trans (hb.mono HB5.out.size))
        have HY6 := Lib.hid (HY5.out.trans (hb.mono HY5.out.size))
        clear hb p0 p1 q0 q1 q2 q3 q4 q5
        have HE : Hid (RR = .error 20) := Lib.hid (by
          rw [← HRR.out, if_neg HW.out, HK1.out]
          simp only
          rw [if_neg HNE.out, HK2.out]
          simp only
          rw [if_pos HAT.out])
        obtain ⟨r1, r2, r3⟩ := HX.out w6 HY6.out
        obtain ⟨f0, f1, f2, f3, f4, f5⟩ := box6_frozen r3
        obtain ⟨z0, z1, z2, z3, z4, z5⟩ := box6_of r3
        have hk4 := row6_set r3 (.int .i64 0) (.string ⟨#[]⟩) (.string ⟨#[]⟩) (.string ⟨#[]⟩) (.int .i64 0) (.bool false)
        have hb4 := below6_set (b := w.heap.size + 2) HB6.out (by omega) (.int .i64 0) (.string ⟨#[]⟩) (.string ⟨#[]⟩) (.string ⟨#[]⟩) (.int .i64 0) (.bool false)
        obtain ⟨w9, hw9⟩ : ∃ u, ((((((w6.setCell ⟨w.heap.size + 2, 0, none⟩ (.int .i64 0)).setCell ⟨w.heap.size + 2, 1, none⟩ (.string ⟨#[]⟩)).setCell ⟨w.heap.size + 2, 2, none⟩ (.string ⟨#[]⟩)).setCell ⟨w.heap.size + 2, 3, none⟩ (.string ⟨#[]⟩)).setCell ⟨w.heap.size + 2, 4, none⟩ (.int .i64 0)).setCell ⟨w.heap.size + 2, 5, none⟩ (.bool false)) = u := ⟨_, rfl⟩
        rw [hw9] at hk4 hb4
        obtain ⟨c0, c1, c2, c3, c4, c5⟩ := box6_of hk4
        have HB9 := Lib.hid hb4
        clear hk4 hb4 r1 r2 r3
        go_wp2_with fail
        refine bodyPost_ret (v := .tuple #[.agg #[.int .i64 0, .string ⟨#[]⟩, .string ⟨#[]⟩, .string ⟨#[]⟩, .int .i64 0, .bool false], .int .i64 20]) (by simp [results, Tryz.results24, go_sem, c0, c1, c2, c3, c4, c5]) rfl ⟨by rw [HE.out]; rfl, HB9.out⟩
      have hcs2 : EA = true ∨ (EA = false ∧ KT = true) := by
        by_cases h0 : att = []
        · exact .inl (by rw [← HEA.out]; exact decide_eq_true h0)
        · exact .inr ⟨by rw [← HEA.out]; exact decide_eq_false h0, by rw [← HKT.out]; exact decide_eq_true (by rcases Int.lt_or_le (Mt.tyAt s att) 0 with h | h; exact absurd ⟨h0, h⟩ ha; exact h)⟩
      have HAT := Lib.hid ha
      clear ha
      have HWAY : Hid (∀ (w6 : World), Below w5.heap.size w5 w6 → Below w.heap.size w w6 ∧ Below w3.heap.size w3 w6) := Lib.hid (fun u hu => ⟨HB5.out.trans (hu.mono HB5.out.size), HY5.out.trans (hu.mono HY5.out.size)⟩)
      have hway2 : ∃ wz, Below w5.heap.size w5 wz := ⟨w5, Below.refl _ _⟩
      clear hway2
      rcases hcs2 with rfl | ⟨rfl, rfl⟩
      · obtain ⟨w6, rfl⟩ : ∃ u, u = w5 := ⟨_, rfl⟩
        have HB6 := HB5
        have HY6 := HY5
        obtain ⟨q0, q1, q2, q3, q4, q5⟩ := box6_of (HX.out w6 HY6.out).2.1
        by_cases hr : ri < 1 ∨ 15 < ri
        · have hcase : decide (ri < 1) = true ∨ (decide (ri < 1) = false ∧ decide (15 < ri) = true) := by
            rcases hr with h | h
            · exact .inl (decide_eq_true h)
            · by_cases h0 : ri < 1
              · exact .inl (decide_eq_true h0)
              · exact .inr ⟨decide_eq_false h0, decide_eq_true h⟩
          have HRI := Lib.hid hr
          clear hr
          have HE : Hid (RR = .error 23) := Lib.hid (by
            rw [← HRR.out, if_neg HW.out, HK1.out]
            simp only
            rw [if_neg HNE.out, HK2.out]
            simp only
            rw [if_neg HAT.out, if_pos HRI.out])
          obtain ⟨r1, r2, r3⟩ := HX.out w6 HY6.out
          obtain ⟨f0, f1, f2, f3, f4, f5⟩ := box6_frozen r3
          obtain ⟨z0, z1, z2, z3, z4, z5⟩ := box6_of r3
          have hk4 := row6_set r3 (.int .i64 0) (.string ⟨#[]⟩) (.string ⟨#[]⟩) (.string ⟨#[]⟩) (.int .i64 0) (.bool false)
          have hb4 := below6_set (b := w.heap.size + 2) HB6.out (by omega) (.int .i64 0) (.string ⟨#[]⟩) (.string ⟨#[]⟩) (.string ⟨#[]⟩) (.int .i64 0) (.bool false)
          obtain ⟨w9, hw9⟩ : ∃ u, ((((((w6.setCell ⟨w.heap.size + 2, 0, none⟩ (.int .i64 0)).setCell ⟨w.heap.size + 2, 1, none⟩ (.string ⟨#[]⟩)).setCell ⟨w.heap.size + 2, 2, none⟩ (.string ⟨#[]⟩)).setCell ⟨w.heap.size + 2, 3, none⟩ (.string ⟨#[]⟩)).setCell ⟨w.heap.size + 2, 4, none⟩ (.int .i64 0)).setCell ⟨w.heap.size + 2, 5, none⟩ (.bool false)) = u := ⟨_, rfl⟩
          rw [hw9] at hk4 hb4
          obtain ⟨c0, c1, c2, c3, c4, c5⟩ := box6_of hk4
          have HB9 := Lib.hid hb4
          clear hk4 hb4 r1 r2 r3
          rcases hcase with d5 | ⟨d5, d6⟩
          all_goals
            go_wp2_with fail
            refine bodyPost_ret (v := .tuple #[.agg #[.int .i64 0, .string ⟨#[]⟩, .string ⟨#[]⟩, .string ⟨#[]⟩, .int .i64 0, .bool false], .int .i64 23]) (by simp [results, Tryz.results24, go_sem, c0, c1, c2, c3, c4, c5]) rfl ⟨by rw [HE.out]; rfl, HB9.out⟩
        have d5 : decide (ri < 1) = false := decide_eq_false (by omega)
        have d6 : decide (15 < ri) = false := decide_eq_false (by omega)
        have HRI := Lib.hid hr
        clear hr
        have HE : Hid (RR = .ok ⟨who, k1, k2, Mt.foldL att, ri, al⟩) := Lib.hid (by
          rw [← HRR.out, if_neg HW.out, HK1.out]
          simp only
          rw [if_neg HNE.out, HK2.out]
          simp only
          rw [if_neg HAT.out, if_neg HRI.out])
        go_wp2_with fail
        refine (HFO.out _).mono ?_
        rintro e w7 ⟨rfl, hb⟩
        have HB7 := Lib.hid (HB6.out.trans (hb.mono HB6.out.size))
        have HY7 := Lib.hid (HY6.out.trans (hb.mono HY6.out.size))
        clear hb q0 q1 q2 q3 q4 q5
        obtain ⟨r1, r2, r3⟩ := HX.out w7 HY7.out
        obtain ⟨f0, f1, f2, f3, f4, f5⟩ := box6_frozen r2
        obtain ⟨q0, q1, q2, q3, q4, q5⟩ := box6_of r2
        have hk8 := heap_setCell_same _ (w.heap.size + 1) 3 _ 54 (.string FB) (heap_setCell_same _ (w.heap.size + 1) 2 _ 54 (.string VB) (heap_setCell_same w7 (w.heap.size + 1) 1 _ 54 (.string KB) r2))
        have hb8 := ((HB7.out.setCell (p := ⟨w.heap.size + 1, 1, none⟩) (by simp) (.string KB)).setCell (p := ⟨w.heap.size + 1, 2, none⟩) (by simp) (.string VB)).setCell (p := ⟨w.heap.size + 1, 3, none⟩) (by simp) (.string FB)
        obtain ⟨w8, hw8⟩ : ∃ u, ((w7.setCell ⟨w.heap.size + 1, 1, none⟩ (.string KB)).setCell ⟨w.heap.size + 1, 2, none⟩ (.string VB)).setCell ⟨w.heap.size + 1, 3, none⟩ (.string FB) = u := ⟨_, rfl⟩
        have hz8 : w8.heap[w.heap.size + 2]? = some (.cells #[.int .i64 0, .string ⟨#[]⟩, .string ⟨#[]⟩, .string ⟨#[]⟩, .int .i64 0, .bool false] 66) := by
          rw [← hw8, heap_setCell_other _ _ _ _ (by show w.heap.size + 2 ≠ w.heap.size + 1; omega), heap_setCell_other _ _ _ _ (by show w.heap.size + 2 ≠ w.heap.size + 1; omega), heap_setCell_other _ _ _ _ (by show w.heap.size + 2 ≠ w.heap.size + 1; omega)]
          exact r3
        rw [hw8] at hk8 hb8
        have hk8' : w8.heap[w.heap.size + 1]? = some (.cells #[.int .i64 who, .string KB, .string VB, .string FB, .int .i64 ri, .bool al] 54) := hk8
        have HB8 := Lib.hid hb8
        have HK8 := Lib.hid (And.intro hk8' hz8)
        clear r1 r2 r3 hk8 hk8' hb8 hz8
        go_upto_region 16 with fail
        clear q0 q1 q2 q3 q4 q5 f0 f1 f2 f3 f4 f5
        obtain ⟨q0, q1, q2, q3, q4, q5⟩ := box6_of HK8.out.1
        obtain ⟨f0, f1, f2, f3, f4, f5⟩ := box6_frozen HK8.out.2
        obtain ⟨z0, z1, z2, z3, z4, z5⟩ := box6_of HK8.out.2
        have hk4 := row6_set HK8.out.2 (.int .i64 who) (.string KB) (.string VB) (.string FB) (.int .i64 ri) (.bool al)
        have hb4 := below6_set (b := w.heap.size + 2) HB8.out (by omega) (.int .i64 who) (.string KB) (.string VB) (.string FB) (.int .i64 ri) (.bool al)
        obtain ⟨w9, hw9⟩ : ∃ u, ((((((w8.setCell ⟨w.heap.size + 2, 0, none⟩ (.int .i64 who)).setCell ⟨w.heap.size + 2, 1, none⟩ (.string KB)).setCell ⟨w.heap.size + 2, 2, none⟩ (.string VB)).setCell ⟨w.heap.size + 2, 3, none⟩ (.string FB)).setCell ⟨w.heap.size + 2, 4, none⟩ (.int .i64 ri)).setCell ⟨w.heap.size + 2, 5, none⟩ (.bool al)) = u := ⟨_, rfl⟩
        rw [hw9] at hk4 hb4
        obtain ⟨c0, c1, c2, c3, c4, c5⟩ := box6_of hk4
        have HB9 := Lib.hid hb4
        clear hk4 hb4
        go_wp2_with fail
        refine bodyPost_ret (v := .tuple #[.agg #[.int .i64 who, .string KB, .string VB, .string FB, .int .i64 ri, .bool al], .int .i64 0]) (by simp [results, Tryz.results24, go_sem, c0, c1, c2, c3, c4, c5]) rfl ⟨by rw [HE.out, ← HKB.out, ← HVB.out, ← HFB.out]; rfl, HB9.out⟩
      · obtain ⟨p0, p1⟩ := box2_of22 (HX.out w5 HY5.out).1
        obtain ⟨q0, q1, q2, q3, q4, q5⟩ := box6_of (HX.out w5 HY5.out).2.1
        go_wp2_with fail
        refine (HT.out _ HB5.out).mono ?_
        rintro e w6 ⟨rfl, hb⟩
        have HB6 := Lib.hid (HB5.out.trans (hb.mono HB5.out.size))
        have HY6 := Lib.hid (HY5.out.trans (hb.mono HY5.out.size))
        clear hb p0 p1 q0 q1 q2 q3 q4 q5
        obtain ⟨q0, q1, q2, q3, q4, q5⟩ := box6_of (HX.out w6 HY6.out).2.1
        by_cases hr : ri < 1 ∨ 15 < ri
        · have hcase : decide (ri < 1) = true ∨ (decide (ri < 1) = false ∧ decide (15 < ri) = true) := by
            rcases hr with h | h
            · exact .inl (decide_eq_true h)
            · by_cases h0 : ri < 1
              · exact .inl (decide_eq_true h0)
              · exact .inr ⟨decide_eq_false h0, decide_eq_true h⟩
          have HRI := Lib.hid hr
          clear hr
          have HE : Hid (RR = .error 23) := Lib.hid (by
            rw [← HRR.out, if_neg HW.out, HK1.out]
            simp only
            rw [if_neg HNE.out, HK2.out]
            simp only
            rw [if_neg HAT.out, if_pos HRI.out])
          obtain ⟨r1, r2, r3⟩ := HX.out w6 HY6.out
          obtain ⟨f0, f1, f2, f3, f4, f5⟩ := box6_frozen r3
          obtain ⟨z0, z1, z2, z3, z4, z5⟩ := box6_of r3
          have hk4 := row6_set r3 (.int .i64 0) (.string ⟨#[]⟩) (.string ⟨#[]⟩) (.string ⟨#[]⟩) (.int .i64 0) (.bool false)
          have hb4 := below6_set (b := w.heap.size + 2) HB6.out (by omega) (.int .i64 0) (.string ⟨#[]⟩) (.string ⟨#[]⟩) (.string ⟨#[]⟩) (.int .i64 0) (.bool false)
          obtain ⟨w9, hw9⟩ : ∃ u, ((((((w6.setCell ⟨w.heap.size + 2, 0, none⟩ (.int .i64 0)).setCell ⟨w.heap.size + 2, 1, none⟩ (.string ⟨#[]⟩)).setCell ⟨w.heap.size + 2, 2, none⟩ (.string ⟨#[]⟩)).setCell ⟨w.heap.size + 2, 3, none⟩ (.string ⟨#[]⟩)).setCell ⟨w.heap.size + 2, 4, none⟩ (.int .i64 0)).setCell ⟨w.heap.size + 2, 5, none⟩ (.bool false)) = u := ⟨_, rfl⟩
          rw [hw9] at hk4 hb4
          obtain ⟨c0, c1, c2, c3, c4, c5⟩ := box6_of hk4
          have HB9 := Lib.hid hb4
          clear hk4 hb4 r1 r2 r3
          rcases hcase with d5 | ⟨d5, d6⟩
          all_goals
            go_wp2_with fail
            refine bodyPost_ret (v := .tuple #[.agg #[.int .i64 0, .string ⟨#[]⟩, .string ⟨#[]⟩, .string ⟨#[]⟩, .int .i64 0, .bool false], .int .i64 23]) (by simp [results, Tryz.results24, go_sem, c0, c1, c2, c3, c4, c5]) rfl ⟨by rw [HE.out]; rfl, HB9.out⟩
        have d5 : decide (ri < 1) = false := decide_eq_false (by omega)
        have d6 : decide (15 < ri) = false := decide_eq_false (by omega)
        have HRI := Lib.hid hr
        clear hr
        have HE : Hid (RR = .ok ⟨who, k1, k2, Mt.foldL att, ri, al⟩) := Lib.hid (by
          rw [← HRR.out, if_neg HW.out, HK1.out]
          simp only
          rw [if_neg HNE.out, HK2.out]
          simp only
          rw [if_neg HAT.out, if_neg HRI.out])
        go_wp2_with fail
        refine (HFO.out _).mono ?_
        rintro e w7 ⟨rfl, hb⟩
        have HB7 := Lib.hid (HB6.out.trans (hb.mono HB6.out.size))
        have HY7 := Lib.hid (HY6.out.trans (hb.mono HY6.out.size))
        clear hb q0 q1 q2 q3 q4 q5
        obtain ⟨r1, r2, r3⟩ := HX.out w7 HY7.out
        obtain ⟨f0, f1, f2, f3, f4, f5⟩ := box6_frozen r2
        obtain ⟨q0, q1, q2, q3, q4, q5⟩ := box6_of r2
        have hk8 := heap_setCell_same _ (w.heap.size + 1) 3 _ 54 (.string FB) (heap_setCell_same _ (w.heap.size + 1) 2 _ 54 (.string VB) (heap_setCell_same w7 (w.heap.size + 1) 1 _ 54 (.string KB) r2))
        have hb8 := ((HB7.out.setCell (p := ⟨w.heap.size + 1, 1, none⟩) (by simp) (.string KB)).setCell (p := ⟨w.heap.size + 1, 2, none⟩) (by simp) (.string VB)).setCell (p := ⟨w.heap.size + 1, 3, none⟩) (by simp) (.string FB)
        obtain ⟨w8, hw8⟩ : ∃ u, ((w7.setCell ⟨w.heap.size + 1, 1, none⟩ (.string KB)).setCell ⟨w.heap.size + 1, 2, none⟩ (.string VB)).setCell ⟨w.heap.size + 1, 3, none⟩ (.string FB) = u := ⟨_, rfl⟩
        have hz8 : w8.heap[w.heap.size + 2]? = some (.cells #[.int .i64 0, .string ⟨#[]⟩, .string ⟨#[]⟩, .string ⟨#[]⟩, .int .i64 0, .bool false] 66) := by
          rw [← hw8, heap_setCell_other _ _ _ _ (by show w.heap.size + 2 ≠ w.heap.size + 1; omega), heap_setCell_other _ _ _ _ (by show w.heap.size + 2 ≠ w.heap.size + 1; omega), heap_setCell_other _ _ _ _ (by show w.heap.size + 2 ≠ w.heap.size + 1; omega)]
          exact r3
        rw [hw8] at hk8 hb8
        have hk8' : w8.heap[w.heap.size + 1]? = some (.cells #[.int .i64 who, .string KB, .string VB, .string FB, .int .i64 ri, .bool al] 54) := hk8
        have HB8 := Lib.hid hb8
        have HK8 := Lib.hid (And.intro hk8' hz8)
        clear r1 r2 r3 hk8 hk8' hb8 hz8
        go_upto_region 16 with fail
        clear q0 q1 q2 q3 q4 q5 f0 f1 f2 f3 f4 f5
        obtain ⟨q0, q1, q2, q3, q4, q5⟩ := box6_of HK8.out.1
        obtain ⟨f0, f1, f2, f3, f4, f5⟩ := box6_frozen HK8.out.2
        obtain ⟨z0, z1, z2, z3, z4, z5⟩ := box6_of HK8.out.2
        have hk4 := row6_set HK8.out.2 (.int .i64 who) (.string KB) (.string VB) (.string FB) (.int .i64 ri) (.bool al)
        have hb4 := below6_set (b := w.heap.size + 2) HB8.out (by omega) (.int .i64 who) (.string KB) (.string VB) (.string FB) (.int .i64 ri) (.bool al)
        obtain ⟨w9, hw9⟩ : ∃ u, ((((((w8.setCell ⟨w.heap.size + 2, 0, none⟩ (.int .i64 who)).setCell ⟨w.heap.size + 2, 1, none⟩ (.string KB)).setCell ⟨w.heap.size + 2, 2, none⟩ (.string VB)).setCell ⟨w.heap.size + 2, 3, none⟩ (.string FB)).setCell ⟨w.heap.size + 2, 4, none⟩ (.int .i64 ri)).setCell ⟨w.heap.size + 2, 5, none⟩ (.bool al)) = u := ⟨_, rfl⟩
        rw [hw9] at hk4 hb4
        obtain ⟨c0, c1, c2, c3, c4, c5⟩ := box6_of hk4
        have HB9 := Lib.hid hb4
        clear hk4 hb4
        go_wp2_with fail
        refine bodyPost_ret (v := .tuple #[.agg #[.int .i64 who, .string KB, .string VB, .string FB, .int .i64 ri, .bool al], .int .i64 0]) (by simp [results, Tryz.results24, go_sem, c0, c1, c2, c3, c4, c5]) rfl ⟨by rw [HE.out, ← HKB.out, ← HVB.out, ← HFB.out]; rfl, HB9.out⟩
end Go.Proofs.YtngdbhncafnliaaGreat
