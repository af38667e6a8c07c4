/-
  Two lists of names held side by side; whether a schema is small.
-/
import Derived.Test.YthkhicpkkmhfbaaScEq
import Derived.Test.YthkhicpkkmhfbaaScTw
import Derived.Deep.CutRange
namespace Go.Proofs.Ythkhicpkkmhfbaa
open Go.RowKit

theorem Mt.str_beq (p q : List UInt8) : ((Mt.str p).toList == (Mt.str q).toList) = decide (p = q) := by
  rw [ByteArray.toList_eq, ByteArray.toList_eq, Mt.str_data, Mt.str_data, Bool.eq_iff_iff, beq_iff_eq, decide_eq_true_eq]
set_option maxRecDepth 100000 in
set_option maxHeartbeats 2000000 in
theorem same13_any {l1 l2 : List (List UInt8)} {w : World} {a b : Value} (h1 : IsNms w a l1) (h2 : IsNms w b l2) (hn : l1.length ≤ 8796093022208) :
    Calls Try.prog 18 #[a, b] w fun e w' => e = .returned (.bool (decide (l1 = l2))) ∧ Below w.heap.size w w' := by
  obtain ⟨x, xc, rfl, hxc, HX⟩ := h1
  obtain ⟨y, yc, rfl, hyc, HY⟩ := h2
  obtain ⟨n, hn1⟩ : ∃ n, l1.length = n := ⟨_, rfl⟩
  obtain ⟨m, hm1⟩ : ∃ m, l2.length = m := ⟨_, rfl⟩
  have HN := Lib.hid (And.intro hn1 hm1)
  rw [hn1] at hxc hn ⊢
  rw [hm1] at hyc ⊢
  obtain ⟨R, hR⟩ : ∃ R, decide (l1 = l2) = R := ⟨_, rfl⟩
  rw [hR]
  have HR := Lib.hid hR
  clear hn1 hm1 hR
  by_cases hnm : n = m
  · subst hnm
    have d1 : ((n : Int) != (n : Int)) = false := by simp
    go_enter Try.func18, Try.ntmps18
    go_wp2_with fail
    go_loopw [13] (fun iv wr => ∃ i : Nat, i ≤ n ∧ iv = .int .i64 (i : Int) ∧ Hid (l1.take i = l2.take i) ∧ Hid (Below w.heap.size w wr)) (fun iv _ => n - (intOf iv).toNat)
    case atStart => exact ⟨0, Nat.zero_le _, rfl, Lib.hid (by simp), Lib.hid (Below.refl _ _)⟩
    case round =>
      obtain ⟨i, hi, rfl, HI, HB⟩ := hrel
      by_cases hlt : i < n
      · have e1 : decide ((i : Int) < (n : Int)) = true := decide_eq_true (by omega)
        have e2 : decide (i < n) = true := decide_eq_true hlt
        have hi1 : i < l1.length := by rw [HN.out.1]; exact hlt
        have hi2 : i < l2.length := by rw [HN.out.2]; exact hlt
        obtain ⟨b1, o1, e3, hb1, hc1⟩ := HX.out i hi1
        obtain ⟨b2, o2, e4, hb2, hc2⟩ := HY.out i hi2
        subst e3 e4
        have x0 := (HB.out.cell (p := ⟨b1, o1 + i, none⟩) hb1).trans hc1
        have y0 := (HB.out.cell (p := ⟨b2, o2 + i, none⟩) hb2).trans hc2
        have i0 : (0 : Int) ≤ (i : Int) := by omega
        have i1 : (i : Int) < (n : Int) := by omega
        have t1 := List.take_succ_eq_append_getElem hi1
        have t2 := List.take_succ_eq_append_getElem hi2
        have hnq : l1[i] ≠ l2[i] → l1 ≠ l2 := fun hh e => hh (by simp only [e])
        generalize l1[i] = p at *
        generalize l2[i] = q at *
        have e5 := Mt.str_beq p q
        by_cases hpq : p = q
        · subst hpq
          rw [decide_eq_true rfl] at e5
          have HI2 : Hid (l1.take (i + 1) = l2.take (i + 1)) := Lib.hid (by rw [t1, t2, HI.out])
          generalize Mt.str p = P at *
          clear hc1 hc2 hb1 hb2 t1 t2 hnq hi1 hi2
          go_upto_region 6 with fail
          go_quiet (fail)
          go_wp2_with fail
          go_roundw
          case rel => exact ⟨i + 1, by omega, by go_num, HI2, Lib.hid (Below.drewS HB.out _)⟩
          case measure => simp [intOf]; omega
        · rw [decide_eq_false hpq] at e5
          have HE : Hid (R = false) := Lib.hid (by rw [← HR.out]; exact decide_eq_false (hnq hpq))
          generalize Mt.str p = P at *
          generalize Mt.str q = Q at *
          clear hc1 hc2 hb1 hb2 t1 t2 hnq hi1 hi2 hpq
          go_upto_region 6 with fail
          go_quiet (fail)
          go_wp2_with fail
          all_goals (go_ret; exact ⟨Mt.ret_bool HE.out.symm, Below.drewS HB.out _⟩)
      · obtain rfl : i = n := by omega
        have e1 : decide ((i : Int) < (i : Int)) = false := decide_eq_false (by omega)
        have e2 : decide (i < i) = false := decide_eq_false (by omega)
        have HE : Hid (R = true) := Lib.hid (by
          rw [← HR.out]
          refine decide_eq_true ?_
          have := HI.out
          rwa [List.take_of_length_le (by rw [HN.out.1]; exact Nat.le_refl _), List.take_of_length_le (by rw [HN.out.2]; exact Nat.le_refl _)] at this)
        go_wp2_with fail
        all_goals (go_ret; exact ⟨Mt.ret_bool HE.out.symm, HB.out⟩)
  · have d1 : ((n : Int) != (m : Int)) = true := by simp; omega
    have d2 : ((n : Int) == (m : Int)) = false := by simp; omega
    have HE : Hid (R = false) := Lib.hid (by rw [← HR.out]; exact decide_eq_false (fun e => hnm (by rw [← HN.out.1, ← HN.out.2, e])))
    go_enter Try.func18, Try.ntmps18
    go_wp2_with fail
    all_goals (go_ret; exact ⟨Mt.ret_bool HE.out.symm, Below.refl _ _⟩)
/-- A schema that may be, and is short enough. -/
def Mt.smallS (s : Mt.Sc) : Bool := decide (s.types.length ≤ 128) && decide (s.classes.length ≤ 40) && decide (Mt.chk s = 0)
set_option maxRecDepth 100000 in
set_option maxHeartbeats 2000000 in
theorem small13_any {tv cv : Value} {s : Mt.Sc} {w : World} (h : IsSc w tv cv s) (hml : ∀ c ∈ s.classes, c.must.length + c.may.length ≤ 8796093022208) :
    Calls Try.prog 12 #[.agg #[tv, cv]] w fun e w' => e = .returned (.bool (Mt.smallS s)) ∧ Below w.heap.size w w' := by
  have HC := Lib.hid (fun (u : World) (hb : Below w.heap.size w u) => rcheck13_any (h.below hb) hml)
  rw [Mt.rchk_eq] at HC
  obtain ⟨S, hS⟩ : ∃ S, Mt.smallS s = S := ⟨_, rfl⟩
  rw [hS]
  unfold Mt.smallS at hS
  have hlt := h.tlen
  have hlc := h.clen
  obtain ⟨ta, tcap, hv1, -, -⟩ := h.types
  obtain ⟨ca, ccap, hv2, -, -⟩ := h.classes
  generalize s.types.length = n at *
  generalize s.classes.length = m at *
  generalize Mt.chk s = R at *
  subst hv1 hv2
  obtain ⟨w1, hw1⟩ : ∃ w1, w.alloc (.cells #[.slice ta n tcap, .slice ca m ccap] 25) = w1 := ⟨_, rfl⟩
  have HA1 : Hid (Below w.heap.size w w1) := Lib.hid (by rw [← hw1]; exact (Below.refl _ w).alloc (Nat.le_refl _) _)
  have hx1 : w1.heap[w.heap.size]? = some (.cells #[.slice ta n tcap, .slice ca m ccap] 25) := by rw [← hw1]; exact heap_alloc_new w _
  have p0 : w1.cell? ⟨w.heap.size, 0, none⟩ = some (.slice ta n tcap) := by rw [cell_of_row _ _ _ _ _ _ hx1]; rfl
  have p1 : w1.cell? ⟨w.heap.size, 1, none⟩ = some (.slice ca m ccap) := by rw [cell_of_row _ _ _ _ _ _ hx1]; rfl
  have HS := Lib.hid hS
  clear h hml hx1 hS
  by_cases h1 : n ≤ 128
  · have d1 : decide ((n : Int) ≤ (128 : Int)) = true := decide_eq_true (by omega)
    have d2 : decide (n ≤ 128) = true := decide_eq_true h1
    by_cases h2 : m ≤ 40
    · have d3 : decide ((m : Int) ≤ (40 : Int)) = true := decide_eq_true (by omega)
      have d4 : decide (m ≤ 40) = true := decide_eq_true h2
      have HE : Hid (decide (R = 0) = S) := Lib.hid (by rw [← HS.out, d2, d4]; rfl)
      clear HS
      go_enter Try.func12, Try.ntmps12
      go_wp2_with fail
      refine (HC.out _ HA1.out).mono ?_
      rintro e w2 ⟨rfl, hb⟩
      have HB2 := Lib.hid (HA1.out.trans (hb.mono HA1.out.size))
      clear hb
      by_cases hr : R = 0
      · subst hr
        have HE2 : Hid (S = true) := Lib.hid (by rw [← HE.out]; rfl)
        go_wp2_with fail
        all_goals (go_ret; exact ⟨Mt.ret_bool HE2.out.symm, HB2.out⟩)
      · have HE2 : Hid (S = false) := Lib.hid (by rw [← HE.out]; exact decide_eq_false hr)
        have d5 : (R == 0) = false := beq_eq_false_iff_ne.2 hr
        go_wp2_with fail
        all_goals (go_ret; exact ⟨Mt.ret_bool HE2.out.symm, HB2.out⟩)
    · have d3 : decide ((m : Int) ≤ (40 : Int)) = false := decide_eq_false (by omega)
      have d4 : decide (m ≤ 40) = false := decide_eq_false h2
      have HE : Hid (S = false) := Lib.hid (by rw [← HS.out, d4]; simp)
      go_enter Try.func12, Try.ntmps12
      go_wp2_with fail
      all_goals (go_ret; exact ⟨Mt.ret_bool HE.out.symm, HA1.out⟩)
  · have d1 : decide ((n : Int) ≤ (128 : Int)) = false := decide_eq_false (by omega)
    have d2 : decide (n ≤ 128) = false := decide_eq_false h1
    have HE : Hid (S = false) := Lib.hid (by rw [← HS.out, d2]; rfl)
    go_enter Try.func12, Try.ntmps12
    go_wp2_with fail
    all_goals (go_ret; exact ⟨Mt.ret_bool HE.out.symm, HA1.out⟩)
end Go.Proofs.Ythkhicpkkmhfbaa

/-
  What follows where nothing is wrong with a schema: each class is found by its name, its Sup ahead of it.
-/
namespace Go.Proofs.Ythkhicpkkmhfbaa
open Go.RowKit

namespace Mt
theorem chk_cl {s : Sc} (h : chk s = 0) : ∀ i, i < s.classes.length → chkCl s i = 0 := by
  unfold chk at h
  intro i hi
  by_cases h1 : 128 < s.types.length ∨ 128 < s.classes.length
  · rw [if_pos h1] at h; cases h
  rw [if_neg h1] at h
  by_cases h2 : firstE (chkTy s) s.types.length 0 = 0
  · rw [if_neg (fun hh => hh h2)] at h
    by_cases h3 : firstE (chkCl s) s.classes.length 0 = 0
    · exact firstE_zero _ _ _ h3 i (by omega) (by omega)
    · rw [if_pos h3] at h; exact absurd h h3
  · rw [if_pos h2] at h; exact absurd h h2
theorem chk_at {s : Sc} (h : chk s = 0) (i : Nat) (hi : i < s.classes.length) : clAt s (clI s i).name = i := by
  have hc := chk_cl h i hi
  have ht := chkCl_typ hc
  unfold chkCl at hc
  rw [if_neg (by rw [ht]; decide)] at hc
  by_cases h2 : clAt s (clI s i).name < i
  · rw [if_pos h2] at hc; cases hc
  · have hat : clAt s (clI s i).name = atL (fun t => sameN t.name (clI s i).name) s.classes := rfl
    rw [hat] at h2 ⊢
    rcases atL_spec (fun t => sameN t.name (clI s i).name) s.classes with ⟨h3, h4⟩ | ⟨m, h3, hm, h4, h5⟩
    · exfalso
      have := h4 i hi
      rw [clI_get hi] at this
      simp [sameN] at this
    · rw [h3] at h2 ⊢
      by_cases e : m = i
      · rw [e]
      · exfalso
        have := h5 i (by omega)
        rw [clI_get hi] at this
        simp [sameN] at this
theorem chk_sup {s : Sc} (h : chk s = 0) (i : Nat) (hi : i < s.classes.length) : ((clI s i).sup = [] → supAt s i < 0) ∧ ((clI s i).sup ≠ [] → supAt s i = clAt s (clI s i).sup ∧ 0 ≤ supAt s i) := by
  have hc := chk_cl h i hi
  have ht := chkCl_typ hc
  constructor
  · intro he
    have hu := rUp_eq s i (by omega)
    rw [← hu]
    unfold rUp clBef
    rcases atL_spec (fun c : Cl => sameN c.name (clI s i).sup) (s.classes.take i) with ⟨h, _⟩ | ⟨m, h, hm, h1, _⟩
    · omega
    · exfalso
      rw [List.length_take] at hm
      have hj := chkCl_typ (chk_cl ‹chk s = 0› m (by omega))
      rw [List.getElem_take, he] at h1
      rw [clI_get (show m < s.classes.length by omega)] at hj
      simp only [sameN, foldL, List.map_nil, decide_eq_true_eq, List.map_eq_nil_iff] at h1
      rw [h1, typL_nil] at hj; cases hj
  · intro hne
    unfold chkCl at hc
    rw [if_neg (by rw [ht]; decide)] at hc
    have h2 := chk_at h i hi
    rw [if_neg (by omega)] at hc
    by_cases h3 : (clI s i).kind ≠ 0 ∧ (clI s i).kind ≠ 1 ∧ (clI s i).kind ≠ 2
    · rw [if_pos h3] at hc; cases hc
    rw [if_neg h3] at hc
    by_cases h4 : chkSup s i = 0
    · unfold chkSup at h4
      by_cases h5 : supAt s i < 0
      · rw [if_pos ⟨hne, h5⟩] at h4; cases h4
      · refine ⟨?_, by omega⟩
        unfold supAt at h5 ⊢
        by_cases h6 : clAt s (clI s i).sup ≥ i
        · rw [if_pos h6] at h5; omega
        · rw [if_neg h6]
    · rw [if_pos h4] at hc; exact absurd hc h4
theorem chains {s : Sc} (h : chk s = 0) (i : Nat) (hi : i < s.classes.length) :
    ∃ r, chainN s (clI s i).name = (clI s i).name :: r ∧ ((clI s i).sup = [] → r = []) ∧ ((clI s i).sup ≠ [] → r = chainN s (clI s i).sup ∧ r.length ≠ 0) := by
  obtain ⟨m, hm⟩ : ∃ m, s.classes.length = m + 1 := ⟨s.classes.length - 1, by omega⟩
  refine ⟨(chainF s m (supAt s i)).map fun (j : Nat) => (clI s (j : Int)).name, ?_, fun he => ?_, fun hne => ?_⟩
  · unfold chainN chain
    rw [chk_at h i hi, hm, chainF_pos s m (by omega)]
    simp
  · rw [chainF_neg s m ((chk_sup h i hi).1 he)]; rfl
  · obtain ⟨h1, h2⟩ := (chk_sup h i hi).2 hne
    have h3 := (supAt_range (s := s) i).2
    constructor
    · unfold chainN chain
      rw [← h1, chainF_more s m s.classes.length (supAt s i) (by omega) (by omega)]
    · obtain ⟨q, rfl⟩ : ∃ q, m = q + 1 := ⟨m - 1, by omega⟩
      rw [chainF_pos s q h2]; simp
end Mt
theorem IsNms.tail {w : World} {b off k c : Nat} {x : List UInt8} {r : List (List UInt8)} (h : IsNms w (.slice (some ⟨b, off, none⟩) (k + 1) (c + 1)) (x :: r)) : (c ≠ 0 → IsNms w (.slice (some ⟨b, off + 1, none⟩) k c) r) ∧ (c = 0 → IsNms w (.slice (some ⟨b, off, none⟩) 0 0) r ∧ k = 0) := by
  obtain ⟨a, cap, e, hc, H⟩ := h
  simp only [List.length_cons] at e hc
  have e1 : some ⟨b, off, none⟩ = a := by injection e
  have e2 : k + 1 = r.length + 1 := by injection e
  have e3 : c + 1 = cap := by injection e
  subst e1 e3
  constructor
  · intro _
    refine ⟨_, c, by rw [show k = r.length by omega], by omega, Lib.hid fun j hj => ?_⟩
    obtain ⟨b', off', h0, h1, h2⟩ := H.out (j + 1) (by simp only [List.length_cons]; omega)
    cases h0
    refine ⟨b, off + 1, rfl, h1, ?_⟩
    rw [show off + 1 + j = off + (j + 1) by omega]
    simpa using h2
  · intro h0
    have : r = [] := List.eq_nil_of_length_eq_zero (by omega)
    subst this
    exact ⟨⟨_, 0, rfl, Nat.le_refl _, Lib.hid fun j hj => absurd hj (by simp)⟩, by simpa using e2⟩
end Go.Proofs.Ythkhicpkkmhfbaa
