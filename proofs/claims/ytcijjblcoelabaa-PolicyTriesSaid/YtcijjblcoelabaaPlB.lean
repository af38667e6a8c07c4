/-
  Whether times rise; whether one of them is strange; whether it is a state.
-/
import Derived.Test.YtcijjblcoelabaaPlA
set_option linter.unusedVariables false
set_option linter.unusedSimpArgs false
namespace Go.Proofs.Ytcijjblcoelabaa
open Go.RowKit

theorem Below.drewP {B : Nat} {a w : World} (h : Below B a w) (m : Nat) : Below B a (w.drewN m) := ⟨h.os, h.tape, h.output, h.size, h.block⟩
theorem nan23_any (a : Int) (w : World) : Calls Try.prog 76 #[.int .i64 a] w fun e w' => e = .returned (.bool false) ∧ w' = w := by
  have e : (a != a) = false := by simp
  go_enter Try.func76, Try.ntmps76
  go_wp2_with fail
  all_goals (go_ret; exact ⟨rfl, rfl⟩)
theorem nan23b_any (a : Int) (w : World) : Calls Try.prog 79 #[.int .i64 a] w fun e w' => e = .returned (.bool false) ∧ w' = w := by
  have e : (a != a) = false := by simp
  go_enter Try.func79, Try.ntmps79
  go_wp2_with fail
  all_goals (go_ret; exact ⟨rfl, rfl⟩)
theorem less23_any (a b : Int) (w : World) : Calls Try.prog 58 #[.int .i64 a, .int .i64 b] w fun e w' => e = .returned (.bool (decide (a < b))) ∧ w' = w := by
  have HN := Lib.hid (fun (x : Int) (u : World) => nan23_any x u)
  obtain ⟨z, hz⟩ : ∃ z, decide (a < b) = z := ⟨_, rfl⟩
  rw [hz]
  go_enter Try.func58, Try.ntmps58
  go_wp2_with (first
    | (go_at_call 76; with_reducible refine (HN.out _ _).mono ?_; rintro e w' ⟨rfl, rfl⟩))
  all_goals (go_ret; exact ⟨by first | rfl | simp, rfl⟩)
set_option maxRecDepth 100000 in
set_option maxHeartbeats 1000000 in
theorem isSorted_any {w : World} {v : Value} {l : List Int} (hv : IsTm w v l) (hn : l.length ≤ 1125899906842624) : Calls Try.prog 35 #[v] w fun e w' => e = .returned (.bool (Mt.riseB l)) ∧ Below w.heap.size w w' := by
  have HLess := Lib.hid (fun (a b : Int) (u : World) => less23_any a b u)
  obtain ⟨a, cap, rfl, hcap, hcell⟩ := hv
  obtain ⟨N, hN⟩ : ∃ N, l.length = N := ⟨_, rfl⟩
  have HL := Lib.hid hN
  rcases Nat.eq_zero_or_pos N with h0 | h0
  · have hl : l = [] := List.eq_nil_of_length_eq_zero (by omega)
    have hr : Mt.riseB l = true := by rw [hl]; rfl
    rw [hr, hN]
    subst h0
    have e1 : wrap64 (((0 : Nat) : Int) - 1) = -1 := by unfold wrap64; omega
    clear hcell hN hcap hl hr HL
    go_enter Try.func35, Try.ntmps35
    go_wp2_with fail
    go_loopw [3] (fun iv wr => iv = .int .i64 (-1) ∧ wr = w) (fun _ _ => 0)
    case atStart => exact ⟨rfl, rfl⟩
    case round =>
      obtain ⟨rfl, rfl⟩ := hrel
      go_wp2_with fail
      all_goals (go_ret; exact ⟨rfl, Below.refl _ _⟩)
  · obtain ⟨m, hm⟩ : ∃ m, N = m + 1 := ⟨N - 1, by omega⟩
    have hs1 : wrap64 ((N : Int) - 1) = (m : Int) := by unfold wrap64; omega
    have hs2 : IntKind.i64.wrap ((N : Int) - 1) = (m : Int) := by rw [IntKind.wrap_i64]; omega
    have HM := Lib.hid hm
    obtain ⟨K, hK⟩ : ∃ K, Mt.riseB l = K := ⟨_, rfl⟩
    have HF : Hid ((∃ j : Nat, ∃ h : j + 1 < l.length, l[j + 1]'h < l[j]'(Nat.lt_of_succ_lt h)) → K = false) := Lib.hid (by
      rintro ⟨j, h, hlt⟩
      rw [← hK]; unfold Mt.riseB
      refine decide_eq_false fun hp => ?_
      have := (List.pairwise_iff_getElem.1 hp) j (j + 1) (by omega) h (by omega)
      omega)
    have HT : Hid ((∀ j : Nat, ∀ h : j + 1 < l.length, l[j]'(Nat.lt_of_succ_lt h) ≤ l[j + 1]'h) → K = true) := Lib.hid (by
      intro h
      rw [← hK]; unfold Mt.riseB
      refine decide_eq_true ?_
      rw [List.pairwise_iff_getElem]
      intro i j hi hj hij
      obtain ⟨d, rfl⟩ : ∃ d, j = i + d := ⟨j - i, by omega⟩
      clear hij
      induction d with
      | zero => exact Int.le_refl _
      | succ d ih => exact Int.le_trans (ih (by omega)) (h (i + d) (by omega)))
    rw [hK, hN]
    clear hK hN hcap hm h0
    go_enter Try.func35, Try.ntmps35
    go_wp2_with fail
    go_loopw [3] (fun iv wr => ∃ i : Nat, i ≤ m ∧ iv = .int .i64 (i : Int) ∧ Hid (∀ j : Nat, ∀ h : j + 1 < l.length, i ≤ j → l[j]'(Nat.lt_of_succ_lt h) ≤ l[j + 1]'h) ∧ Hid (Below w.heap.size w wr)) (fun iv _ => (intOf iv).toNat)
    case atStart => exact ⟨m, Nat.le_refl _, rfl, Lib.hid fun j h h2 => by have := HM.out; have := HL.out; omega, Lib.hid (Below.refl _ _)⟩
    case round =>
      obtain ⟨i, hi, rfl, HO, HB⟩ := hrel
      rcases Nat.eq_zero_or_pos i with hz | hpos
      · subst hz
        have hK : K = true := HT.out fun j h => HO.out j h (Nat.zero_le _)
        subst hK
        go_wp2_with fail
        all_goals (go_ret; exact ⟨rfl, HB.out⟩)
      · obtain ⟨k, hk⟩ : ∃ k, i = k + 1 := ⟨i - 1, by omega⟩
        have hil : i < l.length := by rw [HL.out, HM.out]; omega
        have hkl : k < l.length := by omega
        obtain ⟨b, off, rfl, hb1, hc1⟩ := hcell.out i hil
        obtain ⟨b2, off2, e2, hb2, hc2⟩ := hcell.out k hkl
        obtain ⟨rfl, rfl⟩ : b2 = b ∧ off2 = off := by simp at e2; exact ⟨e2.1.symm, e2.2.symm⟩
        obtain ⟨x, hx⟩ : ∃ x, l[i] = x := ⟨_, rfl⟩
        obtain ⟨y, hy⟩ : ∃ y, l[k] = y := ⟨_, rfl⟩
        rw [hx] at hc1
        rw [hy] at hc2
        have c1 := (HB.out.cell (p := ⟨b2, off2 + i, none⟩) hb1).trans hc1
        have c2 := (HB.out.cell (p := ⟨b2, off2 + k, none⟩) hb1).trans hc2
        have HXY : Hid (∀ h : k + 1 < l.length, l[k + 1]'h = x ∧ l[k]'(Nat.lt_of_succ_lt h) = y) := Lib.hid fun _ => ⟨by rw [← hx]; congr 1; omega, hy⟩
        have d1 : decide (0 < i) = true := decide_eq_true hpos
        have d2 : decide (0 < (i : Int)) = true := decide_eq_true (by omega)
        have w1 : wrap64 ((i : Int) - 1) = (k : Int) := by unfold wrap64; omega
        have w2 : IntKind.i64.wrap ((i : Int) - 1) = (k : Int) := by rw [IntKind.wrap_i64]; omega
        have i0 : (0 : Int) ≤ (i : Int) := by omega
        have iN : i < N := by have := HM.out; omega
        have i1 : (i : Int) < (N : Int) := by omega
        have k0 : (0 : Int) ≤ (k : Int) := by omega
        have kN : k < N := by omega
        have k1 : (k : Int) < (N : Int) := by omega
        have HKI := Lib.hid hk
        obtain ⟨z, hz⟩ : ∃ z, decide (x < y) = z := ⟨_, rfl⟩
        have HZ := Lib.hid hz
        have HLs : Hid (∀ u, Calls Try.prog 58 #[.int .i64 x, .int .i64 y] u fun e w' => e = .returned (.bool z) ∧ w' = u) := Lib.hid (fun u => by rw [← HZ.out]; exact HLess.out x y u)
        have HKl := Lib.hid hkl
        clear hc1 hc2 hb1 hb2 e2 hil hkl hk hpos hx hy hz
        go_upto_region 4 with fail
        go_quiet ((go_at_call 58; exact Calls.quiet_of_same (HLs.out _)))
        have HB2 := Lib.hid (Below.drewP HB.out nq)
        generalize wr.drewN nq = wr2 at *
        clear c1 c2
        cases z
        · go_wp2_with fail
          go_roundw
          case rel =>
            refine ⟨k, by have := HKI.out; omega, by first | rfl | go_num, Lib.hid fun j h h2 => ?_, HB2⟩
            have hki := HKI.out
            by_cases e : j = k
            · subst e
              rw [(HXY.out h).1, (HXY.out h).2]
              have := of_decide_eq_false HZ.out
              omega
            · exact HO.out j h (by omega)
          case measure => simp [intOf]; have := HKI.out; omega
        · have hkk : k + 1 < l.length := by have := HKI.out; have := HM.out; rw [HL.out]; omega
          have hK : K = false := HF.out ⟨k, hkk, by rw [(HXY.out hkk).1, (HXY.out hkk).2]; exact of_decide_eq_true HZ.out⟩
          clear hkk
          subst hK
          go_wp2_with fail
          all_goals (go_ret; exact ⟨rfl, HB2.out⟩)
/-- What tells whether a time is strange. -/
theorem rightF_any (n : Int) (w : World) : Calls Try.prog 36 #[.int .i64 n] w fun e w' => e = .returned (.bool (!Mt.isT n)) ∧ w' = w := by
  have HT := Lib.hid (isTime_any n w)
  generalize Mt.isT n = z at *
  go_enter Try.func36, Try.ntmps36
  go_wp2_with (first
    | (go_at_call 33; with_reducible refine (HT.out).mono ?_; rintro e w' ⟨rfl, rfl⟩))
  all_goals (go_ret; exact ⟨rfl, rfl⟩)
set_option maxRecDepth 100000 in
set_option maxHeartbeats 1000000 in
/-- The first place of which something holds, by a function that is handed in: in any world in which all that lay there still lies, it says that. -/
theorem indexFunc23_any {w : World} {v : Value} {l : List Int} (hv : IsTm w v l) (hn : l.length ≤ 1125899906842624) (g : Nat) (lb : Array Value) (p : Int → Bool) (eg : ∀ args w, (callFunc g args).run Try.prog w = .ok (.enter g args) w)
    (hp : ∀ u, Below w.heap.size w u → ∀ x ∈ l, Calls Try.prog g (#[.int .i64 x] ++ lb) u fun e w' => e = .returned (.bool (p x)) ∧ Below u.heap.size u w') :
    Calls Try.prog 59 #[v, .func (.func g) #[] lb] w fun e w' => e = .returned (.int .i64 (Mt.idxI p l)) ∧ Below w.heap.size w w' := by
  have HP := Lib.hid hp
  obtain ⟨a, cap, rfl, hcap, hcell⟩ := hv
  have hd := Mt.idxI_spec p l
  obtain ⟨k, hk⟩ : ∃ k, Mt.idxI p l = k := ⟨_, rfl⟩
  rw [hk] at hd ⊢
  have HD := Lib.hid hd
  clear hk hd hp
  obtain ⟨m0, hm0⟩ : ∃ m, l.length = m := ⟨_, rfl⟩
  have HL := Lib.hid hm0
  rw [hm0] at hn ⊢
  clear hm0 hcap
  go_enter Try.func59, Try.ntmps59
  go_wp2_with fail
  go_loopw [8] (fun i wr => ∃ m : Nat, m ≤ m0 ∧ i = .int .i64 m ∧ Hid (∀ j (hj : j < l.length), j < m → p l[j] = false) ∧ Hid (Below w.heap.size w wr))
    (fun i _ => m0 - (intOf i).toNat)
  case atStart => exact ⟨0, Nat.zero_le _, rfl, Lib.hid fun j _ h => absurd h (Nat.not_lt_zero _), Lib.hid (Below.refl _ _)⟩
  case round =>
    obtain ⟨m, hm, rfl, HO, HB⟩ := hrel
    by_cases hlt : m < m0
    · have hmr : m < l.length := by rw [HL.out]; exact hlt
      obtain ⟨b, off, rfl, hbl, h0⟩ := hcell.out m hmr
      obtain ⟨t, ht⟩ : ∃ t, l[m] = t := ⟨_, rfl⟩
      rw [ht] at h0
      have x0 := (HB.out.cell (p := ⟨b, off + m, none⟩) hbl).trans h0
      have HC := Lib.hid (HP.out wr HB.out t (by rw [← ht]; exact List.getElem_mem _))
      obtain ⟨q, hq⟩ : ∃ q, p t = q := ⟨_, rfl⟩
      rw [hq] at HC
      have HQ : Hid (p l[m] = q) := Lib.hid (by rw [ht]; exact hq)
      have HH : Hid (q = true → k = m) := Lib.hid (by
        intro h
        rcases HD.out with ⟨_, h2⟩ | ⟨m2, rfl, hm2, h3, h4⟩
        · have := h2 m hmr; rw [HQ.out, h] at this; cases this
        · by_cases e : m2 = m
          · rw [e]
          · rcases Nat.lt_or_ge m2 m with h5 | h5
            · have := HO.out m2 hm2 h5; rw [h3] at this; cases this
            · have := h4 m (by omega); rw [HQ.out, h] at this; cases this)
      have HO2 : Hid (q = false → ∀ j (hj : j < l.length), j < m + 1 → p l[j] = false) := Lib.hid (by
        intro h j hj hlt2
        by_cases e : j = m
        · subst e; rw [HQ.out, h]
        · exact HO.out j hj (by omega))
      have d1 : decide ((m : Int) < (m0 : Int)) = true := decide_eq_true (by omega)
      have d2 : decide (m < m0) = true := decide_eq_true hlt
      clear hq hbl h0 HQ ht hmr
      go_wp2_with fail
      refine (HC.out).mono ?_
      rintro e w2 ⟨rfl, hb⟩
      have HB2 := Lib.hid (HB.out.trans (hb.mono HB.out.size))
      clear hb x0 HC
      cases q
      · go_wp2_with fail
        go_roundw
        case rel => exact ⟨m + 1, by omega, by go_num, Lib.hid (HO2.out (by first | rfl | trivial)), HB2⟩
        case measure => simp [intOf]; omega
      · have hk : k = m := HH.out (by first | rfl | trivial)
        subst hk
        go_wp2_with fail
        all_goals (go_ret; exact ⟨rfl, HB2.out⟩)
    · obtain rfl : m = m0 := by omega
      have d1 : decide ((m : Int) < (m : Int)) = false := decide_eq_false (by omega)
      have d2 : decide (m < m) = false := decide_eq_false (by omega)
      have HQ : Hid (k = -1) := Lib.hid (by
        rcases HD.out with ⟨h, _⟩ | ⟨m2, rfl, hm2, h3, h4⟩
        · exact h
        · have := HO.out m2 hm2 (by rw [← HL.out]; exact hm2); rw [h3] at this; cases this)
      go_wp2_with fail
      all_goals (go_ret; exact ⟨by rw [HQ.out]; rfl, HB.out⟩)
theorem containsFunc23_any {w : World} {v : Value} {l : List Int} (hv : IsTm w v l) (hn : l.length ≤ 1125899906842624) (g : Nat) (lb : Array Value) (p : Int → Bool) (eg : ∀ args w, (callFunc g args).run Try.prog w = .ok (.enter g args) w)
    (hp : ∀ u, Below w.heap.size w u → ∀ x ∈ l, Calls Try.prog g (#[.int .i64 x] ++ lb) u fun e w' => e = .returned (.bool (p x)) ∧ Below u.heap.size u w') :
    Calls Try.prog 37 #[v, .func (.func g) #[] lb] w fun e w' => e = .returned (.bool (l.any p)) ∧ Below w.heap.size w w' := by
  have HI := Lib.hid (indexFunc23_any hv hn g lb p eg hp)
  rw [← Mt.idxI_any]
  obtain ⟨a, cap, rfl, -, -⟩ := hv
  have hk := Mt.idxI_ge p l
  generalize Mt.idxI p l = k at *
  generalize l.length = n at *
  obtain ⟨z, hz⟩ : ∃ z, decide (0 ≤ k) = z := ⟨_, rfl⟩
  rw [hz]
  clear hp eg
  go_enter Try.func37, Try.ntmps37
  go_wp2_with (go_at_call 59; with_reducible refine (HI.out).mono ?_; rintro e w2 ⟨rfl, hb⟩)
  all_goals (go_ret; exact ⟨by first | rfl | simp, hb⟩)
end Go.Proofs.Ytcijjblcoelabaa
