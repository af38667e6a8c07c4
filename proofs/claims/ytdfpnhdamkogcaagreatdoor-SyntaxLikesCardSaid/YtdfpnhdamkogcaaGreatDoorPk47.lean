/-
  Some texts of one proof, one behind the other.
-/
import Derived.Test.YtdfpnhdamkogcaaGreatDoorPk17
import Derived.Test.YtdfpnhdamkogcaaGreatDoorPk25
import Derived.Test.YtdfpnhdamkogcaaGreatDoorPk34
import Derived.Test.YtdfpnhdamkogcaaGreatDoorPk35
import Derived.Test.YtdfpnhdamkogcaaGreatDoorPk36
import Derived.Test.YtdfpnhdamkogcaaGreatDoorPk46
set_option linter.unusedVariables false
set_option linter.unusedSimpArgs false

/-
  The document's normal forms.
-/
namespace Go.Proofs.YtdfpnhdamkogcaaGreatDoor
open Go.RowKit Go.Lib

theorem Mt.n12_big {syn : Int} {l : List UInt8} (h : 4096 < l.length) : Mt.normS syn l = none := by unfold Mt.normS; rw [if_pos h]
theorem Mt.n12_val {syn : Int} {l : List UInt8} (h : ¬ 4096 < l.length) (h6 : syn ≠ 6) {V : Bool} (hv : Mt.validS syn l = V) : Mt.normS syn l = if V = true then (if syn = 1 ∨ syn = 3 then some (Mt.prep l) else some l) else none := by
  unfold Mt.normS
  rw [if_neg h, if_neg h6, hv]
  cases V <;> rfl
theorem Mt.v12_1 (l : List UInt8) : Mt.validS 1 l = (decide (l ≠ []) && validD l) := by unfold Mt.validS; rw [if_pos (show ((1 : Int) = 1 ∨ (1 : Int) = 2) by decide)]
theorem Mt.n12_1 {l : List UInt8} (h : ¬ 4096 < l.length) : Mt.normS 1 l = if (decide (l ≠ []) && validD l) = true then some (Mt.prep l) else none := by rw [Mt.n12_val h (by decide) (Mt.v12_1 l), if_pos (show ((1 : Int) = 1 ∨ (1 : Int) = 3) by decide)]
theorem Mt.v12_2 (l : List UInt8) : Mt.validS 2 l = (decide (l ≠ []) && validD l) := by unfold Mt.validS; rw [if_pos (show ((2 : Int) = 1 ∨ (2 : Int) = 2) by decide)]
theorem Mt.n12_2 {l : List UInt8} (h : ¬ 4096 < l.length) : Mt.normS 2 l = if (decide (l ≠ []) && validD l) = true then some l else none := by rw [Mt.n12_val h (by decide) (Mt.v12_2 l), if_neg (show ¬ ((2 : Int) = 1 ∨ (2 : Int) = 3) by decide)]
theorem Mt.v12_3 (l : List UInt8) : Mt.validS 3 l = Mt.asciiB l := by unfold Mt.validS; rw [if_neg (show ¬ ((3 : Int) = 1 ∨ (3 : Int) = 2) by decide), if_pos rfl]
theorem Mt.n12_3 {l : List UInt8} (h : ¬ 4096 < l.length) : Mt.normS 3 l = if Mt.asciiB l = true then some (Mt.prep l) else none := by rw [Mt.n12_val h (by decide) (Mt.v12_3 l), if_pos (show ((3 : Int) = 1 ∨ (3 : Int) = 3) by decide)]
theorem Mt.v12_4 (l : List UInt8) : Mt.validS 4 l = (Mt.numV l).isSome := by unfold Mt.validS; rw [if_neg (show ¬ ((4 : Int) = 1 ∨ (4 : Int) = 2) by decide), if_neg (show ¬ (4 : Int) = 3 by decide), if_pos rfl]
theorem Mt.n12_4 {l : List UInt8} (h : ¬ 4096 < l.length) : Mt.normS 4 l = if Mt.rnum l = true then some l else none := by rw [Mt.n12_val h (by decide) (by rw [Mt.rnum_eq]; exact Mt.v12_4 l : Mt.validS 4 l = Mt.rnum l), if_neg (show ¬ ((4 : Int) = 1 ∨ (4 : Int) = 3) by decide)]
theorem Mt.v12_5 (l : List UInt8) : Mt.validS 5 l = Mt.truthB l := by unfold Mt.validS; rw [if_neg (show ¬ ((5 : Int) = 1 ∨ (5 : Int) = 2) by decide), if_neg (show ¬ (5 : Int) = 3 by decide), if_neg (show ¬ (5 : Int) = 4 by decide), if_pos rfl]
theorem Mt.n12_5 {l : List UInt8} (h : ¬ 4096 < l.length) : Mt.normS 5 l = if Mt.truthB l = true then some l else none := by rw [Mt.n12_val h (by decide) (Mt.v12_5 l), if_neg (show ¬ ((5 : Int) = 1 ∨ (5 : Int) = 3) by decide)]
theorem Mt.v12_7 (l : List UInt8) : Mt.validS 7 l = true := by unfold Mt.validS; rw [if_neg (show ¬ ((7 : Int) = 1 ∨ (7 : Int) = 2) by decide), if_neg (show ¬ (7 : Int) = 3 by decide), if_neg (show ¬ (7 : Int) = 4 by decide), if_neg (show ¬ (7 : Int) = 5 by decide), if_pos rfl]
theorem Mt.n12_7 {l : List UInt8} (h : ¬ 4096 < l.length) : Mt.normS 7 l = some l := by rw [Mt.n12_val h (by decide) (Mt.v12_7 l), if_neg (show ¬ ((7 : Int) = 1 ∨ (7 : Int) = 3) by decide)]; rfl
theorem Mt.v12_8 (l : List UInt8) : Mt.validS 8 l = Mt.timeB l := by unfold Mt.validS; rw [if_neg (show ¬ ((8 : Int) = 1 ∨ (8 : Int) = 2) by decide), if_neg (show ¬ (8 : Int) = 3 by decide), if_neg (show ¬ (8 : Int) = 4 by decide), if_neg (show ¬ (8 : Int) = 5 by decide), if_neg (show ¬ (8 : Int) = 7 by decide), if_pos rfl]
theorem Mt.n12_8 {l : List UInt8} (h : ¬ 4096 < l.length) : Mt.normS 8 l = if Mt.timeB l = true then some l else none := by rw [Mt.n12_val h (by decide) (Mt.v12_8 l), if_neg (show ¬ ((8 : Int) = 1 ∨ (8 : Int) = 3) by decide)]
theorem Mt.n12_no {syn : Int} {l : List UInt8} (h : syn ≠ 1 ∧ syn ≠ 2 ∧ syn ≠ 3 ∧ syn ≠ 4 ∧ syn ≠ 5 ∧ syn ≠ 6 ∧ syn ≠ 7 ∧ syn ≠ 8) : Mt.normS syn l = none := by
  unfold Mt.normS Mt.validS
  split
  · rfl
  · rw [if_neg h.2.2.2.2.2.1, if_neg (show ¬ (syn = 1 ∨ syn = 2) by omega), if_neg h.2.2.1, if_neg h.2.2.2.1, if_neg h.2.2.2.2.1, if_neg h.2.2.2.2.2.2.1, if_neg h.2.2.2.2.2.2.2, if_pos rfl]
theorem ascii_no {s : ByteArray} (k : Nat) (h : k < s.size) (hn : ¬ s[k].toNat < 128) : Mt.asciiB s.data.toList = false := by
  rw [Bool.eq_false_iff]
  intro hd
  unfold Mt.asciiB at hd
  have := List.all_eq_true.1 hd _ (List.getElem_mem (l := s.data.toList) (n := k) h)
  exact hn (of_decide_eq_true this)
theorem ascii_yes {s : ByteArray} (h : ∀ k (h : k < s.size), s[k].toNat < 128) : Mt.asciiB s.data.toList = true := by
  unfold Mt.asciiB
  rw [List.all_eq_true]
  intro c hc
  obtain ⟨k, hk, rfl⟩ := List.mem_iff_getElem.1 hc
  exact decide_eq_true (h k hk)

set_option maxRecDepth 100000 in
set_option maxHeartbeats 2000000 in
theorem rnorm12_any (syn : Int) (s : ByteArray) (hs : s.size ≤ 70368744177664) (w : World) : Calls Tryz.prog 11 #[.int .i64 syn, .string s] w fun e w' => e = .returned (normV (Mt.normS syn s.data.toList)) ∧ Below w.heap.size w w' := by
  have hl : s.data.toList.length = s.size := rfl
  by_cases hbig : 4096 < s.size
  · have d1 : decide ((4096 : Int) < (s.size : Int)) = true := decide_eq_true (by omega)
    rw [Mt.n12_big (by omega)]
    clear hbig hl hs
    go_enter Tryz.func11, Tryz.ntmps11
    go_wp2_with fail
    go_ret2
    exact ⟨rfl, Below.refl _ _⟩
  have d1 : decide ((4096 : Int) < (s.size : Int)) = false := decide_eq_false (by omega)
  have hb : ¬ 4096 < s.data.toList.length := by omega
  have HP := Lib.hid (rprep_any s w hs)
  have hrb : Mt.rb (s.data.toList.map Mt.sm) s.size = Mt.prep s.data.toList := Mt.rb_prep s.data.toList
  rw [hrb] at HP
  clear hrb
  by_cases h1 : syn = 1
  · subst h1
    rw [Mt.n12_1 hb]
    by_cases h0 : s.size = 0
    · have e : s.data.toList = [] := List.eq_nil_of_length_eq_zero h0
      have d0 : decide ((0 : Int) < (s.size : Int)) = false := decide_eq_false (by omega)
      have d0n : decide (0 < s.size) = false := decide_eq_false (by omega)
      rw [if_neg (by rw [e]; decide)]
      clear e h0 hl hb hbig HP
      go_enter Tryz.func11, Tryz.ntmps11
      go_wp2_with fail
      go_ret2
      exact ⟨rfl, Below.refl _ _⟩
    · have hne : s.data.toList ≠ [] := fun e => by rw [e] at hl; exact h0 hl.symm
      have d0 : decide ((0 : Int) < (s.size : Int)) = true := decide_eq_true (by omega)
      have d0n : decide (0 < s.size) = true := decide_eq_true (by omega)
      have HU := Lib.hid (rutf_any s (by omega) w)
      rw [decide_eq_true hne, Bool.true_and]
      generalize validD s.data.toList = V at *
      clear hne h0 hl hb hbig
      cases V with
      | false =>
        rw [if_neg (by decide)]
        clear HP
        go_enter Tryz.func11, Tryz.ntmps11
        go_wp2_with fail
        refine (HU.out).mono ?_
        rintro e w1 ⟨rfl, rfl⟩
        go_wp2_with fail
        go_ret2
        exact ⟨rfl, Below.refl _ _⟩
      | true =>
        rw [if_pos rfl]
        go_enter Tryz.func11, Tryz.ntmps11
        go_wp2_with fail
        refine (HU.out).mono ?_
        rintro e w1 ⟨rfl, rfl⟩
        go_wp2_with fail
        refine (HP.out).mono ?_
        rintro e w1 ⟨rfl, hb⟩
        have HB := Lib.hid hb
        clear hb
        go_wp2_with fail
        go_ret2
        exact ⟨rfl, HB.out⟩
  by_cases h2 : syn = 2
  · subst h2
    rw [Mt.n12_2 hb]
    clear HP
    by_cases h0 : s.size = 0
    · have e : s.data.toList = [] := List.eq_nil_of_length_eq_zero h0
      have d0 : decide ((0 : Int) < (s.size : Int)) = false := decide_eq_false (by omega)
      have d0n : decide (0 < s.size) = false := decide_eq_false (by omega)
      rw [if_neg (by rw [e]; decide)]
      clear e h0 hl hb hbig h1
      go_enter Tryz.func11, Tryz.ntmps11
      go_wp2_with fail
      go_ret2
      exact ⟨rfl, Below.refl _ _⟩
    · have hne : s.data.toList ≠ [] := fun e => by rw [e] at hl; exact h0 hl.symm
      have d0 : decide ((0 : Int) < (s.size : Int)) = true := decide_eq_true (by omega)
      have d0n : decide (0 < s.size) = true := decide_eq_true (by omega)
      have HU := Lib.hid (rutf_any s (by omega) w)
      rw [decide_eq_true hne, Bool.true_and]
      generalize validD s.data.toList = V at *
      clear hne h0 hl hb hbig h1
      cases V with
      | false =>
        rw [if_neg (by decide)]
        go_enter Tryz.func11, Tryz.ntmps11
        go_wp2_with fail
        refine (HU.out).mono ?_
        rintro e w1 ⟨rfl, rfl⟩
        go_wp2_with fail
        go_ret2
        exact ⟨rfl, Below.refl _ _⟩
      | true =>
        rw [if_pos rfl]
        go_enter Tryz.func11, Tryz.ntmps11
        go_wp2_with fail
        refine (HU.out).mono ?_
        rintro e w1 ⟨rfl, rfl⟩
        go_wp2_with fail
        go_ret2
        exact ⟨rfl, Below.refl _ _⟩
  by_cases h3 : syn = 3
  · subst h3
    rw [Mt.n12_3 hb]
    obtain ⟨O, hO⟩ : ∃ O, normV (if Mt.asciiB s.data.toList = true then some (Mt.prep s.data.toList) else none) = O := ⟨_, rfl⟩
    rw [hO]
    have HNO : Hid (∀ k (h : k < s.size), ¬ s[k].toNat < 128 → O = normV none) := Lib.hid (fun k h hn => by rw [← hO, ascii_no (s := s) k h hn]; rfl)
    have HYES : Hid ((∀ k (h : k < s.size), s[k].toNat < 128) → O = normV (some (Mt.prep s.data.toList))) := Lib.hid (fun h => by rw [← hO, ascii_yes (s := s) h]; rfl)
    clear hO
    have hs2 : (s.size : Int) ≤ 4096 := by omega
    clear h1 h2 hl hb hbig
    go_enter Tryz.func11, Tryz.ntmps11
    go_wp2_with fail
    go_loopw [6] (fun i wr => ∃ (k : Nat), i = .int .i64 k ∧ k ≤ s.size ∧ Hid (∀ j (h : j < s.size), j < k → s[j].toNat < 128) ∧ wr = w) (fun i _ => s.size - (intOf i).toNat)
    case atStart => exact ⟨0, rfl, Nat.zero_le _, Lib.hid (fun j _ h => absurd h (Nat.not_lt_zero _)), rfl⟩
    case round =>
      obtain ⟨k, rfl, hk, HE, rfl⟩ := hrel
      by_cases hlt : k < s.size
      · have i1 : (k : Int) < (s.size : Int) := by omega
        have i2 : decide ((k : Int) < (s.size : Int)) = true := decide_eq_true i1
        have HN := Lib.hid (HNO.out k hlt)
        obtain ⟨X, hX⟩ : ∃ X, s[k].toNat = X := ⟨_, rfl⟩
        by_cases x1 : X < 128
        · have g1 : decide ((128 : Int) ≤ (X : Int)) = false := decide_eq_false (by omega)
          have HI := Lib.hid (show s[k].toNat < 128 by omega)
          go_wp2_with fail
          go_roundw
          case rel =>
            refine ⟨k + 1, rfl, by omega, Lib.hid fun j hj hjk => ?_, trivial⟩
            by_cases e : j = k
            · subst e; exact HI.out
            · exact HE.out j hj (by omega)
          case measure => show s.size - (((k + 1 : Nat) : Int)).toNat < s.size - ((k : Nat) : Int).toNat; omega
        · have g1 : decide ((128 : Int) ≤ (X : Int)) = true := decide_eq_true (by omega)
          have HZ := Lib.hid (HN.out (by omega))
          go_wp2_with fail
          go_ret2
          exact ⟨by rw [HZ.out]; rfl, Below.refl _ _⟩
      · have hke : k = s.size := by omega
        subst hke
        have i2 : decide ((s.size : Int) < (s.size : Int)) = false := decide_eq_false (by omega)
        have HZ := Lib.hid (HYES.out (fun j hj => HE.out j hj hj))
        go_wp2_with fail
        refine (HP.out).mono ?_
        rintro e w1 ⟨rfl, hb⟩
        have HB := Lib.hid hb
        clear hb
        go_wp2_with fail
        go_ret2
        exact ⟨by rw [HZ.out]; rfl, HB.out⟩
  clear HP
  by_cases h4 : syn = 4
  · subst h4
    rw [Mt.n12_4 hb]
    have HU := Lib.hid (rnumber_any s (by omega) w)
    generalize Mt.rnum s.data.toList = V at *
    clear h1 h2 h3 hl hb hbig
    cases V with
    | false =>
      rw [if_neg (by decide)]
      go_enter Tryz.func11, Tryz.ntmps11
      go_wp2_with fail
      refine (HU.out).mono ?_
      rintro e w1 ⟨rfl, rfl⟩
      go_wp2_with fail
      go_ret2
      exact ⟨rfl, Below.refl _ _⟩
    | true =>
      rw [if_pos rfl]
      go_enter Tryz.func11, Tryz.ntmps11
      go_wp2_with fail
      refine (HU.out).mono ?_
      rintro e w1 ⟨rfl, rfl⟩
      go_wp2_with fail
      go_ret2
      exact ⟨rfl, Below.refl _ _⟩
  by_cases h5 : syn = 5
  · subst h5
    rw [Mt.n12_5 hb]
    clear h1 h2 h3 h4 hl hb hbig
    have hT : Mt.truthB s.data.toList = (decide (s.data.toList = [84, 82, 85, 69]) || decide (s.data.toList = [70, 65, 76, 83, 69])) := rfl
    rw [hT]
    clear hT
    by_cases ht : s.data.toList = [84, 82, 85, 69]
    · have e3 : s.toList = [84, 82, 85, 69] := by rw [ByteArray.toList_eq]; exact ht
      have e3b : (s.toList == [84, 82, 85, 69]) = true := by simpa using e3
      rw [decide_eq_true ht, Bool.true_or, if_pos rfl]
      clear ht
      go_enter Tryz.func11, Tryz.ntmps11
      go_wp2_with fail
      go_ret2
      exact ⟨rfl, Below.refl _ _⟩
    · have e3 : ¬ s.toList = [84, 82, 85, 69] := by rw [ByteArray.toList_eq]; exact ht
      have e3b : (s.toList == [84, 82, 85, 69]) = false := by simpa using e3
      by_cases hf : s.data.toList = [70, 65, 76, 83, 69]
      · have e4 : s.toList = [70, 65, 76, 83, 69] := by rw [ByteArray.toList_eq]; exact hf
        have e4b : (s.toList == [70, 65, 76, 83, 69]) = true := by simpa using e4
        rw [decide_eq_false ht, decide_eq_true hf, Bool.false_or, if_pos rfl]
        clear ht hf
        go_enter Tryz.func11, Tryz.ntmps11
        go_wp2_with fail
        go_ret2
        exact ⟨rfl, Below.refl _ _⟩
      · have e4 : ¬ s.toList = [70, 65, 76, 83, 69] := by rw [ByteArray.toList_eq]; exact hf
        have e4b : (s.toList == [70, 65, 76, 83, 69]) = false := by simpa using e4
        rw [decide_eq_false ht, decide_eq_false hf, if_neg (by decide)]
        clear ht hf
        go_enter Tryz.func11, Tryz.ntmps11
        go_wp2_with fail
        go_ret2
        exact ⟨rfl, Below.refl _ _⟩
  by_cases h6 : syn = 6
  · subst h6
    have HK := Lib.hid (rkey_of rplain_any s w)
    cases hk : Mt.keyL s.data.toList with
    | ok k =>
      rw [hk] at HK
      have hN : Mt.normS 6 s.data.toList = some k := by
        unfold Mt.normS
        rw [if_neg hb, if_pos rfl, hk]
      rw [hN]
      unfold textV at HK
      clear hk hN hbig hl hs hb h1 h2 h3 h4 h5
      go_enter Tryz.func11, Tryz.ntmps11
      go_wp2_with fail
      refine (HK.out).mono ?_
      rintro e w1 ⟨rfl, hb⟩
      have HB := Lib.hid hb
      clear hb
      go_wp2_with fail
      go_ret2
      exact ⟨rfl, HB.out⟩
    | error er =>
      rw [hk] at HK
      have hne : ((er : Int) == 0) = false := beq_eq_false_iff_ne.2 (by have := Mt.keyL_err hk; omega)
      have hne2 : ¬ er = 0 := by have := Mt.keyL_err hk; omega
      have hN : Mt.normS 6 s.data.toList = none := by
        unfold Mt.normS
        rw [if_neg hb, if_pos rfl, hk]
      rw [hN]
      unfold textV at HK
      clear hk hN hbig hl hs hb h1 h2 h3 h4 h5
      go_enter Tryz.func11, Tryz.ntmps11
      go_wp2_with fail
      refine (HK.out).mono ?_
      rintro e w1 ⟨rfl, hb⟩
      have HB := Lib.hid hb
      clear hb
      go_wp2_with fail
      go_ret2
      exact ⟨rfl, HB.out⟩
  by_cases h7 : syn = 7
  · subst h7
    rw [Mt.n12_7 hb]
    clear h1 h2 h3 h4 h5 h6 hl hb hbig
    go_enter Tryz.func11, Tryz.ntmps11
    go_wp2_with fail
    go_ret2
    exact ⟨rfl, Below.refl _ _⟩
  by_cases h8 : syn = 8
  · subst h8
    rw [Mt.n12_8 hb]
    have HU := Lib.hid (rmoment_any s (by omega) w)
    generalize Mt.timeB s.data.toList = V at *
    clear h1 h2 h3 h4 h5 h6 h7 hl hb hbig
    cases V with
    | false =>
      rw [if_neg (by decide)]
      go_enter Tryz.func11, Tryz.ntmps11
      go_wp2_with fail
      refine (HU.out).mono ?_
      rintro e w1 ⟨rfl, hb⟩
      have HB := Lib.hid hb
      clear hb
      go_wp2_with fail
      go_ret2
      exact ⟨rfl, HB.out⟩
    | true =>
      rw [if_pos rfl]
      go_enter Tryz.func11, Tryz.ntmps11
      go_wp2_with fail
      refine (HU.out).mono ?_
      rintro e w1 ⟨rfl, hb⟩
      have HB := Lib.hid hb
      clear hb
      go_wp2_with fail
      go_ret2
      exact ⟨rfl, HB.out⟩
  · rw [Mt.n12_no ⟨h1, h2, h3, h4, h5, h6, h7, h8⟩]
    have b1 : (syn == 1) = false := beq_eq_false_iff_ne.2 h1
    have b2 : (syn == 2) = false := beq_eq_false_iff_ne.2 h2
    have b3 : (syn == 3) = false := beq_eq_false_iff_ne.2 h3
    have b4 : (syn == 4) = false := beq_eq_false_iff_ne.2 h4
    have b5 : (syn == 5) = false := beq_eq_false_iff_ne.2 h5
    have b6 : (syn == 6) = false := beq_eq_false_iff_ne.2 h6
    have b7 : (syn == 7) = false := beq_eq_false_iff_ne.2 h7
    have b8 : (syn == 8) = false := beq_eq_false_iff_ne.2 h8
    clear h1 h2 h3 h4 h5 h6 h7 h8 hl hb hbig
    go_enter Tryz.func11, Tryz.ntmps11
    go_wp2_with fail
    go_ret2
    exact ⟨rfl, Below.refl _ _⟩
end Go.Proofs.YtdfpnhdamkogcaaGreatDoor
