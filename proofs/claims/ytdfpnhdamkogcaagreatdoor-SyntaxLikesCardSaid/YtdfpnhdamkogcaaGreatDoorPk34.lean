/-
  Some texts of one proof, one behind the other.
-/
import Derived.Sort.Walk0
import Derived.Test.YtdfpnhdamkogcaaGreatDoorPk5
import Derived.Test.YtdfpnhdamkogcaaGreatDoorPk33
set_option linter.unusedVariables false
set_option linter.unusedSimpArgs false

/-
  The document's numbers.
-/
namespace Go.Proofs.YtdfpnhdamkogcaaGreatDoor
open Go.RowKit Go.Lib

theorem digs_pos {V : ByteArray} (h : Mt.digs V.data.toList = true) : 0 < V.size := by
  have h1 := ((Mt.digs_iff _).1 h).1
  have h2 : V.data.toList.length = V.size := rfl
  have := List.length_pos_iff.2 h1
  omega
theorem rdig_at {V : ByteArray} (h : Mt.digs V.data.toList = true) (hp : 0 < V.size) (most : List UInt8) :
    Mt.rdig V.data.toList most = (decide (¬ V[0].toNat = 48) && (decide (V.size < 19) || (decide (V.size = 19) && decide (¬ most < V.data.toList)))) := by
  have h2 : V.data.toList.length = V.size := rfl
  have h3 : V.data.toList.head? = some V[0] := by
    rw [List.head?_eq_getElem?, List.getElem?_eq_getElem (by omega)]; rfl
  unfold Mt.rdig
  rw [h, h3, h2, Bool.true_and]
  congr 1
  rw [decide_eq_decide]
  constructor
  · intro k e; exact k (by rw [UInt8.toNat_inj.1 (show V[0].toNat = (48 : UInt8).toNat from e)])
  · intro k e; injection e with e; exact k (by rw [e]; rfl)
theorem leq_str (a b : ByteArray) : (Op.bytesLess a.toList b.data.toList || a.toList == b.data.toList) = decide (¬ b.data.toList < a.data.toList) := by
  symm
  have e : decide (¬ b.data.toList < a.data.toList) = (Op.bytesLess a.toList b.toList || a.toList == b.toList) := by
    rw [bytesLess_eq, ByteArray.toList_eq, ByteArray.toList_eq]
    generalize a.data.toList = x
    generalize b.data.toList = y
    rw [Bool.eq_iff_iff]
    simp only [Bool.or_eq_true, decide_eq_true_eq, beq_iff_eq]
    constructor
    · intro h
      by_cases e : x = y
      · exact .inr e
      · left
        by_cases h2 : x < y
        · exact h2
        · exact absurd (List.le_antisymm (h : x ≤ y) (h2 : y ≤ x)) e
    · rintro (h | h)
      · exact List.le_of_lt h
      · rw [h]; exact List.le_refl _
  rw [e, ByteArray.toList_eq b]
theorem run_leq (a b : ByteArray) (w : World) : Sem.run Tryz.prog (binOp BinOp.leq 9 (.string a) (.string b)) w = .ok (.bool (decide (¬ b.data.toList < a.data.toList))) w := by
  rw [← leq_str, ← ByteArray.toList_eq b]
  rfl
set_option maxRecDepth 100000 in
set_option maxHeartbeats 1000000 in
/-- Behind the sign, if there is one. -/
theorem rnumber_sign (s : ByteArray) (hs : s.size ≤ 9223372036854775806) (hp : 0 < s.size) (h45 : s[0].toNat = 45) (h0 : ¬ s.data.toList = [48]) (w : World) :
    Calls Tryz.prog 22 #[.string s] w fun e w' => e = .returned (.bool (Mt.rdig (s.extract 1 s.size).data.toList Mt.most8)) ∧ w = w' := by
  have n0 : ¬ s.toList = [48] := by rw [ByteArray.toList_eq]; exact h0
  have n0' : (s.toList == [48]) = false := by simpa using n0
  have hpi : (0 : Int) < (s.size : Int) := by omega
  have hpd : decide ((0 : Int) < (s.size : Int)) = true := decide_eq_true hpi
  have hz : (s.extract 1 s.size).size = s.size - 1 := ext_size s 1 s.size (Nat.le_refl _)
  have hV : (s.extract 1 s.size).size ≤ 9223372036854775806 := by omega
  have hsl : (1 : Int) ≤ (s.size : Int) := by omega
  have HR : Hid (Mt.rdig (s.extract 1 s.size).data.toList Mt.most8 = Mt.rdig (s.extract 1 s.size).data.toList Mt.most8) := Lib.hid rfl
  obtain ⟨R, hR⟩ : ∃ R, Mt.rdig (s.extract 1 s.size).data.toList Mt.most8 = R := ⟨_, rfl⟩
  replace HR := Lib.hid hR.symm
  rw [hR]
  have k45 : ((s[0].toNat : Int) == 45) = true := by simp [h45]
  clear hR h0 h45
  by_cases hdg : Mt.digs (s.extract 1 s.size).data.toList = true
  · have HDG := Lib.hid (rdigits_any (s.extract 1 s.size) hV w)
    rw [hdg] at HDG
    have hpos : 0 < (s.extract 1 s.size).size := digs_pos hdg
    have hposi : (0 : Int) < ((s.extract 1 s.size).size : Int) := by omega
    have hpos2 : 0 < s.size - 1 := by omega
    obtain ⟨X, hX⟩ : ∃ X, (s.extract 1 s.size)[0].toNat = X := ⟨_, rfl⟩
    have HH := Lib.hid (rdig_at hdg hpos Mt.most8)
    rw [hX] at HH
    clear hdg
    by_cases hx : X = 48
    · have g1 : ((X : Int) != 48) = false := by simp [hx]
      have HZ := Lib.hid (show Mt.rdig (s.extract 1 s.size).data.toList Mt.most8 = false by rw [HH.out, decide_eq_false (by omega)]; rfl)
      rw [HZ.out] at HR
      clear hx
      go_enter Tryz.func22, Tryz.ntmps22
      go_wp2_with fail
      refine HDG.out.mono ?_
      rintro e w1 ⟨rfl, rfl⟩
      go_wp2_with fail
      go_ret
      exact ⟨by rw [HR.out]; rfl, rfl⟩
    · have g1 : ((X : Int) != 48) = true := by simp; omega
      by_cases hl : (s.extract 1 s.size).size < 19
      · have g2 : decide (((s.extract 1 s.size).size : Int) < 19) = true := decide_eq_true (by omega)
        have g2b : decide (((s.size - 1 : Nat) : Int) < 19) = true := decide_eq_true (by omega)
        have HZ := Lib.hid (show Mt.rdig (s.extract 1 s.size).data.toList Mt.most8 = true by rw [HH.out, decide_eq_true hx, decide_eq_true hl]; rfl)
        rw [HZ.out] at HR
        clear hx hl
        go_enter Tryz.func22, Tryz.ntmps22
        go_wp2_with fail
        refine HDG.out.mono ?_
        rintro e w1 ⟨rfl, rfl⟩
        go_wp2_with fail
        go_ret
        exact ⟨by rw [HR.out]; rfl, rfl⟩
      · have g2 : decide (((s.extract 1 s.size).size : Int) < 19) = false := decide_eq_false (by omega)
        have g2b : decide (((s.size - 1 : Nat) : Int) < 19) = false := decide_eq_false (by omega)
        by_cases he : (s.extract 1 s.size).size = 19
        · have g3 : (((s.extract 1 s.size).size : Int) == 19) = true := beq_iff_eq.2 (by omega)
          have g3b : (((s.size - 1 : Nat) : Int) == 19) = true := beq_iff_eq.2 (by omega)
          have HZ := Lib.hid (show Mt.rdig (s.extract 1 s.size).data.toList Mt.most8 = decide (¬ Mt.most8 < (s.extract 1 s.size).data.toList) by rw [HH.out, decide_eq_true hx, decide_eq_false hl, decide_eq_true he]; simp)
          rw [HZ.out] at HR
          obtain ⟨q, hq⟩ : ∃ q, decide (¬ Mt.most8 < (s.extract 1 s.size).data.toList) = q := ⟨_, rfl⟩
          have HQ := Lib.hid hq
          have hq2 : (Op.bytesLess (s.extract 1 s.size).toList [57, 50, 50, 51, 51, 55, 50, 48, 51, 54, 56, 53, 52, 55, 55, 53, 56, 48, 56] || (s.extract 1 s.size).toList == [57, 50, 50, 51, 51, 55, 50, 48, 51, 54, 56, 53, 52, 55, 55, 53, 56, 48, 56]) = q := by
            rw [← hq]
            exact leq_str (s.extract 1 s.size) (Mt.str Mt.most8)
          have hlq := run_leq (s.extract 1 s.size) (Mt.str Mt.most8) w
          rw [Mt.str_data, hq] at hlq
          have hm : Mt.str Mt.most8 = ⟨#[57, 50, 50, 51, 51, 55, 50, 48, 51, 54, 56, 53, 52, 55, 55, 53, 56, 48, 56]⟩ := rfl
          rw [hm] at hlq
          clear hm hq
          rw [HQ.out] at HR
          clear hx hl he
          go_enter Tryz.func22, Tryz.ntmps22
          go_wp2_with fail
          refine HDG.out.mono ?_
          rintro e w1 ⟨rfl, rfl⟩
          go_wp2_with fail
          go_ret
          exact ⟨by rw [HR.out]; rfl, rfl⟩
        · have g3 : (((s.extract 1 s.size).size : Int) == 19) = false := beq_eq_false_iff_ne.2 (by omega)
          have g3b : (((s.size - 1 : Nat) : Int) == 19) = false := beq_eq_false_iff_ne.2 (by omega)
          have HZ := Lib.hid (show Mt.rdig (s.extract 1 s.size).data.toList Mt.most8 = false by rw [HH.out, decide_eq_false hl, decide_eq_false he]; simp)
          rw [HZ.out] at HR
          clear hx hl he
          go_enter Tryz.func22, Tryz.ntmps22
          go_wp2_with fail
          refine HDG.out.mono ?_
          rintro e w1 ⟨rfl, rfl⟩
          go_wp2_with fail
          go_ret
          exact ⟨by rw [HR.out]; rfl, rfl⟩
  · have hdg' : Mt.digs (s.extract 1 s.size).data.toList = false := by simpa using hdg
    have HDG := Lib.hid (rdigits_any (s.extract 1 s.size) hV w)
    rw [hdg'] at HDG
    have HZ := Lib.hid (show Mt.rdig (s.extract 1 s.size).data.toList Mt.most8 = false by unfold Mt.rdig; rw [hdg']; rfl)
    rw [HZ.out] at HR
    clear hdg hdg'
    go_enter Tryz.func22, Tryz.ntmps22
    go_wp2_with fail
    refine HDG.out.mono ?_
    rintro e w1 ⟨rfl, rfl⟩
    go_wp2_with fail
    go_ret
    exact ⟨by rw [HR.out]; rfl, rfl⟩
set_option maxRecDepth 100000 in
set_option maxHeartbeats 1000000 in
/-- Without a sign. -/
theorem rnumber_plain (s : ByteArray) (hV : s.size ≤ 9223372036854775806) (h45 : ∀ h : 0 < s.size, ¬ s[0].toNat = 45) (h0 : ¬ s.data.toList = [48]) (w : World) :
    Calls Tryz.prog 22 #[.string s] w fun e w' => e = .returned (.bool (Mt.rdig s.data.toList Mt.most7)) ∧ w = w' := by
  have n0 : ¬ s.toList = [48] := by rw [ByteArray.toList_eq]; exact h0
  have n0' : (s.toList == [48]) = false := by simpa using n0
  obtain ⟨R, hR⟩ : ∃ R, Mt.rdig s.data.toList Mt.most7 = R := ⟨_, rfl⟩
  have HR := Lib.hid hR.symm
  rw [hR]
  clear hR h0
  by_cases hp0 : s.size = 0
  · obtain rfl : s = ⟨#[]⟩ := by
      have h : s.data.toList = [] := List.eq_nil_of_length_eq_zero hp0
      exact congrArg (fun l => (⟨⟨l⟩⟩ : ByteArray)) h
    have HDG := Lib.hid (rdigits_any ⟨#[]⟩ hV w)
    rw [show Mt.digs (⟨#[]⟩ : ByteArray).data.toList = false from rfl] at HDG
    have HZ := Lib.hid (show R = false from HR.out)
    clear HR n0 n0' h45 hp0 hV
    go_enter Tryz.func22, Tryz.ntmps22
    go_wp2_with fail
    refine HDG.out.mono ?_
    rintro e w1 ⟨rfl, rfl⟩
    go_wp2_with fail
    go_ret
    exact ⟨by rw [HZ.out]; rfl, rfl⟩
  have hpp : 0 < s.size := by omega
  have hpd : decide ((0 : Int) < (s.size : Int)) = true := decide_eq_true (by omega)
  have h45' := h45 hpp
  have hpi : (0 : Int) < (s.size : Int) := by omega
  have k45 : ((s[0].toNat : Int) == 45) = false := by simp; omega
  clear h45 h45' hp0
  by_cases hdg : Mt.digs s.data.toList = true
  · have HDG := Lib.hid (rdigits_any s hV w)
    rw [hdg] at HDG
    have hpos : 0 < s.size := digs_pos hdg
    have hposi : (0 : Int) < (s.size : Int) := by omega
    obtain ⟨X, hX⟩ : ∃ X, s[0].toNat = X := ⟨_, rfl⟩
    have HH := Lib.hid (rdig_at hdg hpos Mt.most7)
    rw [hX] at HH
    clear hdg
    by_cases hx : X = 48
    · have g1 : ((X : Int) != 48) = false := by simp [hx]
      have HZ := Lib.hid (show Mt.rdig s.data.toList Mt.most7 = false by rw [HH.out, decide_eq_false (by omega)]; rfl)
      rw [HZ.out] at HR
      clear hx
      go_enter Tryz.func22, Tryz.ntmps22
      go_wp2_with fail
      refine HDG.out.mono ?_
      rintro e w1 ⟨rfl, rfl⟩
      go_wp2_with fail
      go_ret
      exact ⟨by rw [HR.out]; rfl, rfl⟩
    · have g1 : ((X : Int) != 48) = true := by simp; omega
      by_cases hl : s.size < 19
      · have g2 : decide ((s.size : Int) < 19) = true := decide_eq_true (by omega)
        have HZ := Lib.hid (show Mt.rdig s.data.toList Mt.most7 = true by rw [HH.out, decide_eq_true hx, decide_eq_true hl]; rfl)
        rw [HZ.out] at HR
        clear hx hl
        go_enter Tryz.func22, Tryz.ntmps22
        go_wp2_with fail
        refine HDG.out.mono ?_
        rintro e w1 ⟨rfl, rfl⟩
        go_wp2_with fail
        go_ret
        exact ⟨by rw [HR.out]; rfl, rfl⟩
      · have g2 : decide ((s.size : Int) < 19) = false := decide_eq_false (by omega)
        by_cases he : s.size = 19
        · have g3 : ((s.size : Int) == 19) = true := beq_iff_eq.2 (by omega)
          have HZ := Lib.hid (show Mt.rdig s.data.toList Mt.most7 = decide (¬ Mt.most7 < s.data.toList) by rw [HH.out, decide_eq_true hx, decide_eq_false hl, decide_eq_true he]; simp)
          rw [HZ.out] at HR
          obtain ⟨q, hq⟩ : ∃ q, decide (¬ Mt.most7 < s.data.toList) = q := ⟨_, rfl⟩
          have HQ := Lib.hid hq
          have hq2 : (Op.bytesLess s.toList [57, 50, 50, 51, 51, 55, 50, 48, 51, 54, 56, 53, 52, 55, 55, 53, 56, 48, 55] || s.toList == [57, 50, 50, 51, 51, 55, 50, 48, 51, 54, 56, 53, 52, 55, 55, 53, 56, 48, 55]) = q := by
            rw [← hq]
            exact leq_str s (Mt.str Mt.most7)
          have hlq := run_leq s (Mt.str Mt.most7) w
          rw [Mt.str_data, hq] at hlq
          have hm : Mt.str Mt.most7 = ⟨#[57, 50, 50, 51, 51, 55, 50, 48, 51, 54, 56, 53, 52, 55, 55, 53, 56, 48, 55]⟩ := rfl
          rw [hm] at hlq
          clear hm hq
          rw [HQ.out] at HR
          clear hx hl he
          go_enter Tryz.func22, Tryz.ntmps22
          go_wp2_with fail
          refine HDG.out.mono ?_
          rintro e w1 ⟨rfl, rfl⟩
          go_wp2_with fail
          go_ret
          exact ⟨by rw [HR.out]; rfl, rfl⟩
        · have g3 : ((s.size : Int) == 19) = false := beq_eq_false_iff_ne.2 (by omega)
          have HZ := Lib.hid (show Mt.rdig s.data.toList Mt.most7 = false by rw [HH.out, decide_eq_false hl, decide_eq_false he]; simp)
          rw [HZ.out] at HR
          clear hx hl he
          go_enter Tryz.func22, Tryz.ntmps22
          go_wp2_with fail
          refine HDG.out.mono ?_
          rintro e w1 ⟨rfl, rfl⟩
          go_wp2_with fail
          go_ret
          exact ⟨by rw [HR.out]; rfl, rfl⟩
  · have hdg' : Mt.digs s.data.toList = false := by simpa using hdg
    have HDG := Lib.hid (rdigits_any s hV w)
    rw [hdg'] at HDG
    have HZ := Lib.hid (show Mt.rdig s.data.toList Mt.most7 = false by unfold Mt.rdig; rw [hdg']; rfl)
    rw [HZ.out] at HR
    clear hdg hdg'
    go_enter Tryz.func22, Tryz.ntmps22
    go_wp2_with fail
    refine HDG.out.mono ?_
    rintro e w1 ⟨rfl, rfl⟩
    go_wp2_with fail
    go_ret
    exact ⟨by rw [HR.out]; rfl, rfl⟩
theorem rnumber_any (s : ByteArray) (hs : s.size ≤ 9223372036854775806) (w : World) : Calls Tryz.prog 22 #[.string s] w fun e w' => e = .returned (.bool (Mt.rnum s.data.toList)) ∧ w = w' := by
  have hl : s.data.toList.length = s.size := rfl
  by_cases h0 : s.data.toList = [48]
  · have e : Mt.rnum s.data.toList = true := by unfold Mt.rnum; rw [if_pos h0]
    have n0 : s.toList = [48] := by rw [ByteArray.toList_eq]; exact h0
    have n0' : (s.toList == [48]) = true := by simpa using n0
    rw [e]
    clear e h0 hl
    go_enter Tryz.func22, Tryz.ntmps22
    go_wp2_with fail
    go_ret
    exact ⟨rfl, rfl⟩
  by_cases h45 : s.data.toList.head? = some 45
  · have hp : 0 < s.size := by
      rw [← hl]; cases h : s.data.toList with
      | nil => rw [h] at h45; cases h45
      | cons => simp
    have h1 : s[0].toNat = 45 := by
      rw [List.head?_eq_getElem?, List.getElem?_eq_getElem (by omega)] at h45
      injection h45 with h45
      have : s[0] = 45 := h45
      rw [this]; rfl
    have e : Mt.rnum s.data.toList = Mt.rdig (s.extract 1 s.size).data.toList Mt.most8 := by
      unfold Mt.rnum
      rw [if_neg h0, if_pos h45, ext_data, List.take_of_length_le (by rw [List.length_drop]; omega), List.drop_one]
    rw [e]
    exact rnumber_sign s hs hp h1 h0 w
  · have e : Mt.rnum s.data.toList = Mt.rdig s.data.toList Mt.most7 := by
      unfold Mt.rnum
      rw [if_neg h0, if_neg h45]
    rw [e]
    exact rnumber_plain s hs (fun hp h => h45 (by
      rw [List.head?_eq_getElem?, List.getElem?_eq_getElem (by omega)]
      exact congrArg some (UInt8.toNat_inj.1 (show s[0].toNat = (45 : UInt8).toNat from h)))) h0 w
end Go.Proofs.YtdfpnhdamkogcaaGreatDoor
