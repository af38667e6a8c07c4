/-
  Some texts of one proof, one behind the other.
-/
import Derived.Test.YtdfpnhdamkogcaaGreatDoorPk5
import Derived.Test.YtdfpnhdamkogcaaGreatDoorPk33
set_option linter.unusedVariables false
set_option linter.unusedSimpArgs false

/-
  The document's times.
-/
namespace Go.Proofs.YtdfpnhdamkogcaaGreatDoor
open Go.RowKit Go.Lib

theorem seg_take (l : List UInt8) (a b : Nat) (hb : b ≤ 14) : (l.drop a).take (b - a) = ((l.take 14).drop a).take (b - a) := by
  rw [List.drop_take, List.take_take, Nat.min_eq_left (by omega)]
theorem rnum_ext (s : ByteArray) (h15 : s.size = 15) (hd : ∀ c ∈ s.data.toList.take 14, Mt.isD c) (a b : Nat) (hb : b ≤ 14) (h4 : b - a ≤ 4) (u : World) : Calls Tryz.prog 48 #[.string (s.extract a b)] u fun e w' => e = .returned (.int .i64 (Mt.seg (s.data.toList.take 14) a b : Int)) ∧ u = w' := by
  have h := rnum_any (s.extract a b) (fun c hc => by
    rw [ext_data, seg_take _ _ _ hb] at hc
    exact hd c (List.mem_of_mem_drop (List.mem_of_mem_take hc))) (by rw [ext_size s a b (by omega)]; exact h4) u
  rw [ext_data, seg_take _ _ _ hb] at h
  exact h
set_option maxHeartbeats 4000000 in
set_option maxRecDepth 100000 in
/-- Fourteen digits, and a Z. -/
theorem rmoment_z (s : ByteArray) (h15 : s.size = 15) (hd : ∀ c ∈ s.data.toList.take 14, Mt.isD c) (hz : ∀ h : 14 < s.size, s[14].toNat = 90) (w : World) :
    Calls Tryz.prog 24 #[.string s] w fun e w' => e = .returned (.bool (Mt.okD (s.data.toList.take 14))) ∧ Below w.heap.size w w' := by
  have hll : s.data.toList.length = s.size := rfl
  have hdg : Mt.digs (s.extract 0 14).data.toList = true := by
    rw [ext_data]
    refine (Mt.digs_iff _).2 ⟨fun e => ?_, fun c hc => hd c (by simpa using hc)⟩
    have := congrArg List.length e
    rw [List.length_take, List.length_drop, hll, h15] at this
    simp at this
  have HD := Lib.hid (rdigits_any (s.extract 0 14) (by rw [ext_size s 0 14 (by omega)]; decide) w)
  rw [hdg] at HD
  have HC := Lib.hid (fun a b u hb h4 => rnum_ext s h15 hd a b hb h4 u)
  have HLT := Lib.hid (fun a b h => seg_lt (s.data.toList.take 14) hd a b h)
  have HOK : Hid (Mt.okD (s.data.toList.take 14) = Mt.okT (Mt.seg (s.data.toList.take 14) 0 4) (Mt.seg (s.data.toList.take 14) 4 6) (Mt.seg (s.data.toList.take 14) 6 8) (Mt.seg (s.data.toList.take 14) 8 10) (Mt.seg (s.data.toList.take 14) 10 12) (Mt.seg (s.data.toList.take 14) 12 14)) := Lib.hid rfl
  generalize Mt.okD (s.data.toList.take 14) = ok at *
  generalize s.data.toList.take 14 = l at *
  have hlt : 14 < s.size := by omega
  have k90 : ((s[14].toNat : Int) != 90) = false := by simp [hz hlt]
  have hsz : (s.size : Int) = 15 := by omega
  clear hdg hd hz hll
  go_enter Tryz.func24, Tryz.ntmps24
  go_wp2_with fail
  refine (HD.out).mono ?_
  rintro e w1 ⟨rfl, rfl⟩
  clear HD
  go_upto_region 3 with fail
  go_cut [3, 4, 5] from 30 (fun t5 t6 t7 wx => t5 = .int .i64 (Mt.seg l 0 4 : Int) ∧ t6 = .int .i64 (Mt.seg l 4 6 : Int) ∧ t7 = .int .i64 (Mt.seg l 6 8 : Int) ∧ Hid (Below w.heap.size w wx))
  case first =>
    have HB := Lib.hid ((Below.refl w.heap.size w).drew)
    go_region_law (first | (go_simp; go_at_call 48; refine (HC.out _ _ _ (by omega) (by omega)).mono ?_; rintro e wx ⟨rfl, rfl⟩))
    all_goals
      go_wp2_with fail
      go_meet
      case rel => exact ⟨rfl, rfl, rfl, HB⟩
  case rest =>
    obtain ⟨rfl, rfl, rfl, HB⟩ := hcut
    have b1 := HLT.out 0 4 (by omega)
    have c1 := HLT.out 4 6 (by omega)
    have HC4 := Lib.hid (fun u => HC.out 8 10 u (by omega) (by omega))
    have HC5 := Lib.hid (fun u => HC.out 10 12 u (by omega) (by omega))
    have HC6 := Lib.hid (fun u => HC.out 12 14 u (by omega) (by omega))
    generalize Mt.seg l 0 4 = y at *
    generalize Mt.seg l 4 6 = m at *
    generalize Mt.seg l 6 8 = dd at *
    generalize Mt.seg l 8 10 = h at *
    generalize Mt.seg l 10 12 = i at *
    generalize Mt.seg l 12 14 = sc at *
    clear HLT HC
    by_cases m1 : 1 ≤ m ∧ m ≤ 12 ∧ 1 ≤ dd
    · have e1 : decide ((m : Int) < 1) = false := decide_eq_false (by omega)
      have e2 : decide ((12 : Int) < (m : Int)) = false := decide_eq_false (by omega)
      have e3 : decide ((dd : Int) < 1) = false := decide_eq_false (by omega)
      by_cases m2 : h ≤ 23 ∧ i ≤ 59 ∧ sc ≤ 59
      · have e4 : decide ((23 : Int) < (h : Int)) = false := decide_eq_false (by omega)
        have e5 : decide ((59 : Int) < (i : Int)) = false := decide_eq_false (by omega)
        have e6 : decide ((59 : Int) < (sc : Int)) = false := decide_eq_false (by omega)
        have HO : Hid (ok = decide (dd ≤ Mt.lastD y m)) := Lib.hid (by
          rw [HOK.out]
          unfold Mt.okT
          rw [decide_eq_decide]
          omega)
        clear HOK
        go_wp2_with fail
        refine (HC4.out _).mono ?_
        rintro e w1 ⟨rfl, rfl⟩
        go_wp2_with fail
        refine (HC5.out _).mono ?_
        rintro e w1 ⟨rfl, rfl⟩
        go_wp2_with fail
        refine (HC6.out _).mono ?_
        rintro e w1 ⟨rfl, rfl⟩
        have hy2 : (y : Int) ≤ 100000 := by omega
        have hy0 : (0 : Int) ≤ (y : Int) := by omega
        clear HC4 HC5 HC6 b1 c1
        by_cases m2 : m = 2
        · subst m2
          obtain ⟨b1, h1⟩ : ∃ b, ((y : Int) % 4 == 0) = b := ⟨_, rfl⟩
          obtain ⟨b2, h2⟩ : ∃ b, ((y : Int) % 100 != 0) = b := ⟨_, rfl⟩
          obtain ⟨b3, h3⟩ : ∃ b, ((y : Int) % 400 == 0) = b := ⟨_, rfl⟩
          have hL : Mt.lastD y 2 = if (b1 && b2 || b3) = true then 29 else 28 := by
            have e : ((y % 4 = 0 ∧ y % 100 ≠ 0) ∨ y % 400 = 0) ↔ (b1 && b2 || b3) = true := by
              rw [← h1, ← h2, ← h3]
              simp
              omega
            unfold Mt.lastD
            rw [if_pos rfl]
            by_cases hc : (y % 4 = 0 ∧ y % 100 ≠ 0) ∨ y % 400 = 0
            · rw [if_pos hc, if_pos (e.1 hc)]
            · rw [if_neg hc, if_neg (fun h => hc (e.2 h))]
          rw [hL] at HO
          clear hL
          obtain ⟨p9, g9⟩ : ∃ b, decide ((dd : Int) ≤ 29) = b := ⟨_, rfl⟩
          obtain ⟨p8, g8⟩ : ∃ b, decide ((dd : Int) ≤ 28) = b := ⟨_, rfl⟩
          have HO9 := Lib.hid (show decide (dd ≤ 29) = p9 by rw [← g9, decide_eq_decide]; omega)
          have HO8 := Lib.hid (show decide (dd ≤ 28) = p8 by rw [← g8, decide_eq_decide]; omega)
          cases b1 <;> cases b2 <;> cases b3 <;> (go_wp2_with fail; go_ret; exact ⟨by first | (rw [HO.out, if_pos (by decide), HO9.out]; rfl) | (rw [HO.out, if_neg (by decide), HO8.out]; rfl), HB.out⟩)
        · have n2 : ((m : Int) == 2) = false := beq_eq_false_iff_ne.2 (by omega)
          by_cases m3 : m = 4 ∨ m = 6 ∨ m = 9 ∨ m = 11
          · have hL : Mt.lastD y m = 30 := by unfold Mt.lastD; rw [if_neg m2, if_pos m3]
            rw [hL] at HO
            obtain ⟨p9, g9⟩ : ∃ b, decide ((dd : Int) ≤ 30) = b := ⟨_, rfl⟩
            have HO9 := Lib.hid (show decide (dd ≤ 30) = p9 by rw [← g9, decide_eq_decide]; omega)
            clear hL m2
            rcases m3 with rfl | rfl | rfl | rfl <;> (go_wp2_with fail; go_ret; exact ⟨by rw [HO.out, HO9.out]; rfl, HB.out⟩)
          · have hL : Mt.lastD y m = 31 := by unfold Mt.lastD; rw [if_neg m2, if_neg m3]
            rw [hL] at HO
            obtain ⟨p9, g9⟩ : ∃ b, decide ((dd : Int) ≤ 31) = b := ⟨_, rfl⟩
            have HO9 := Lib.hid (show decide (dd ≤ 31) = p9 by rw [← g9, decide_eq_decide]; omega)
            have n4 : ((m : Int) == 4) = false := beq_eq_false_iff_ne.2 (by omega)
            have n6 : ((m : Int) == 6) = false := beq_eq_false_iff_ne.2 (by omega)
            have n9 : ((m : Int) == 9) = false := beq_eq_false_iff_ne.2 (by omega)
            have n11 : ((m : Int) == 11) = false := beq_eq_false_iff_ne.2 (by omega)
            clear hL m2 m3
            go_wp2_with fail
            go_ret
            exact ⟨by rw [HO.out, HO9.out]; rfl, HB.out⟩
      · have HO : Hid (ok = false) := Lib.hid (by
          rw [HOK.out]
          unfold Mt.okT
          rw [decide_eq_false_iff_not]
          omega)
        clear HOK b1 c1
        by_cases x1 : 23 < h
        · have e4 : decide ((23 : Int) < (h : Int)) = true := decide_eq_true (by omega)
          clear x1 m2
          go_wp2_with fail
          refine (HC4.out _).mono ?_
          rintro e w1 ⟨rfl, rfl⟩
          go_wp2_with fail
          go_ret
          exact ⟨by rw [HO.out]; rfl, HB.out⟩
        · have e4 : decide ((23 : Int) < (h : Int)) = false := decide_eq_false (by omega)
          by_cases x2 : 59 < i
          · have e5 : decide ((59 : Int) < (i : Int)) = true := decide_eq_true (by omega)
            clear x1 x2 m2
            go_wp2_with fail
            refine (HC4.out _).mono ?_
            rintro e w1 ⟨rfl, rfl⟩
            go_wp2_with fail
            refine (HC5.out _).mono ?_
            rintro e w1 ⟨rfl, rfl⟩
            go_wp2_with fail
            go_ret
            exact ⟨by rw [HO.out]; rfl, HB.out⟩
          · have e5 : decide ((59 : Int) < (i : Int)) = false := decide_eq_false (by omega)
            have e6 : decide ((59 : Int) < (sc : Int)) = true := decide_eq_true (by omega)
            clear x1 x2 m2
            go_wp2_with fail
            refine (HC4.out _).mono ?_
            rintro e w1 ⟨rfl, rfl⟩
            go_wp2_with fail
            refine (HC5.out _).mono ?_
            rintro e w1 ⟨rfl, rfl⟩
            go_wp2_with fail
            refine (HC6.out _).mono ?_
            rintro e w1 ⟨rfl, rfl⟩
            go_wp2_with fail
            go_ret
            exact ⟨by rw [HO.out]; rfl, HB.out⟩
    · have HO : Hid (ok = false) := Lib.hid (by
        rw [HOK.out]
        unfold Mt.okT
        rw [decide_eq_false_iff_not]
        omega)
      clear HOK b1 c1 HC4 HC5 HC6
      by_cases x1 : m < 1
      · have e1 : decide ((m : Int) < 1) = true := decide_eq_true (by omega)
        clear x1 m1
        go_wp2_with fail
        go_ret
        exact ⟨by rw [HO.out]; rfl, HB.out⟩
      · have e1 : decide ((m : Int) < 1) = false := decide_eq_false (by omega)
        by_cases x2 : 12 < m
        · have e2 : decide ((12 : Int) < (m : Int)) = true := decide_eq_true (by omega)
          clear x1 x2 m1
          go_wp2_with fail
          go_ret
          exact ⟨by rw [HO.out]; rfl, HB.out⟩
        · have e2 : decide ((12 : Int) < (m : Int)) = false := decide_eq_false (by omega)
          have e3 : decide ((dd : Int) < 1) = true := decide_eq_true (by omega)
          clear x1 x2 m1
          go_wp2_with fail
          go_ret
          exact ⟨by rw [HO.out]; rfl, HB.out⟩
theorem time_of {l : List UInt8} (h15 : l.length = 15) (hd : ∀ c ∈ l.take 14, Mt.isD c) (hz : l.getD 14 0 = 90) : Mt.timeB l = Mt.okD (l.take 14) := by
  have e : l.drop 14 = [90] := by
    apply List.ext_getElem
    · simp [h15]
    · intro i h1 h2
      simp at h2
      subst h2
      simp [List.getD, List.getElem?_eq_getElem (show 14 < l.length by omega)] at hz
      simp [hz]
  unfold Mt.timeB
  rw [h15, e, decide_eq_true hd]
  simp
set_option maxRecDepth 100000 in
theorem rmoment_any (s : ByteArray) (hs : s.size ≤ 9223372036854775806) (w : World) : Calls Tryz.prog 24 #[.string s] w fun e w' => e = .returned (.bool (Mt.timeB s.data.toList)) ∧ Below w.heap.size w w' := by
  have hll : s.data.toList.length = s.size := rfl
  by_cases h15 : s.size = 15
  · have hi15 : (s.size : Int) = 15 := by omega
    have hlt : 14 < s.size := by omega
    have hd15 : ((s.size : Int) != 15) = false := by simp [hi15]
    have hx : s.data.toList.getD 14 0 = s[14] := by simp [List.getD, List.getElem?_eq_getElem (show 14 < s.data.toList.length by omega)]; rfl
    by_cases hd : ∀ c ∈ s.data.toList.take 14, Mt.isD c
    · by_cases hz : s[14].toNat = 90
      · rw [time_of (by omega) hd (by rw [hx]; exact UInt8.toNat_inj.1 hz)]
        exact rmoment_z s h15 hd (fun _ => hz) w
      · have hT : Mt.timeB s.data.toList = false := by
          rw [Bool.eq_false_iff]
          intro ht
          unfold Mt.timeB at ht
          simp only [Bool.and_eq_true, decide_eq_true_eq] at ht
          have h1 : s.data.toList[14]? = some 90 := by
            have := congrArg (fun l => l[0]?) ht.1.2
            simpa using this
          rw [List.getElem?_eq_getElem (by omega)] at h1
          injection h1 with h1
          exact hz (by have h2 : s[14] = 90 := h1; rw [h2]; rfl)
        have hdg : Mt.digs (s.extract 0 14).data.toList = true := by
          rw [ext_data]
          refine (Mt.digs_iff _).2 ⟨fun e => ?_, fun c hc => hd c (by simpa using hc)⟩
          have := congrArg List.length e
          rw [List.length_take, List.length_drop, hll, h15] at this
          simp at this
        have HD := Lib.hid (rdigits_any (s.extract 0 14) (by rw [ext_size s 0 14 (by omega)]; decide) w)
        rw [hdg] at HD
        have k90 : ((s[14].toNat : Int) != 90) = true := by simp; omega
        rw [hT]
        clear hT hdg hd hz hx hll
        go_enter Tryz.func24, Tryz.ntmps24
        go_wp2_with fail
        refine (HD.out).mono ?_
        rintro e w1 ⟨rfl, rfl⟩
        go_wp2_with fail
        go_ret
        exact ⟨rfl, Below.refl _ _⟩
    · have hT : Mt.timeB s.data.toList = false := by unfold Mt.timeB; rw [decide_eq_false hd]; simp
      have hdg : Mt.digs (s.extract 0 14).data.toList = false := by
        rw [ext_data, Bool.eq_false_iff]
        intro h
        exact hd (by simpa using ((Mt.digs_iff _).1 h).2)
      have HD := Lib.hid (rdigits_any (s.extract 0 14) (by rw [ext_size s 0 14 (by omega)]; decide) w)
      rw [hdg] at HD
      rw [hT]
      clear hT hdg hd hx hll
      go_enter Tryz.func24, Tryz.ntmps24
      go_wp2_with fail
      refine (HD.out).mono ?_
      rintro e w1 ⟨rfl, rfl⟩
      go_wp2_with fail
      go_ret
      exact ⟨rfl, Below.refl _ _⟩
  · have hd15 : ((s.size : Int) != 15) = true := by simp; omega
    rw [Mt.time_length (by omega)]
    clear hll h15
    go_enter Tryz.func24, Tryz.ntmps24
    go_wp2_with fail
    go_ret
    exact ⟨rfl, Below.refl _ _⟩
end Go.Proofs.YtdfpnhdamkogcaaGreatDoor
