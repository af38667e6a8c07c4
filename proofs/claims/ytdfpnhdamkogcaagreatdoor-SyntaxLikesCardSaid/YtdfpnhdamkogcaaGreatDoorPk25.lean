/-
  Some texts of one proof, one behind the other.
-/
import Derived.Test.YtdfpnhdamkogcaaGreatDoorPk5
import Derived.Test.YtdfpnhdamkogcaaGreatDoorPk6
import Derived.Test.YtdfpnhdamkogcaaGreatDoorPk17
import Derived.Test.YtdfpnhdamkogcaaGreatDoorPk24
set_option linter.unusedVariables false
set_option linter.unusedSimpArgs false

/-
  A value's normal form.
-/
namespace Go.Proofs.YtdfpnhdamkogcaaGreatDoor
open Go.RowKit Go.Lib

theorem str_nil {s : ByteArray} (h : s.size = 0) : s = ⟨#[]⟩ := by
  apply ByteArray.ext
  exact Array.eq_empty_of_size_eq_zero h
theorem str_eq_lit (s : ByteArray) (l : List UInt8) (h : s.data.toList ≠ l) : (s.toList == l) = false := by
  rw [ByteArray.toList_eq]
  simpa using h
set_option maxRecDepth 100000 in
theorem valid_any (syn : Int) (s : ByteArray) (hs : s.size ≤ 4096) (w : World) (hL : LaidY w) : Calls Tryz.prog 18 #[.int .i64 syn, .string s] w fun e w' => e = .returned (.bool (Mt.validS syn s.data.toList)) ∧ Below w.heap.size w w' := by
  have hl : s.data.toList.length = s.size := rfl
  by_cases h12 : syn = 1 ∨ syn = 2
  · have hV : Mt.validS syn s.data.toList = (decide (s.data.toList ≠ []) && validD s.data.toList) := by unfold Mt.validS; rw [if_pos h12]
    rw [hV]; clear hV
    rcases Nat.eq_zero_or_pos s.size with h0 | h0
    · obtain rfl := str_nil h0
      have e : (decide ((⟨#[]⟩ : ByteArray).data.toList ≠ []) && validD (⟨#[]⟩ : ByteArray).data.toList) = false := rfl
      rw [e]
      clear e h0 hs hl
      rcases h12 with rfl | rfl
      · go_enter Tryz.func18, Tryz.ntmps18
        go_wp2_with fail
        go_ret
        exact ⟨rfl, Below.refl _ _⟩
      · go_enter Tryz.func18, Tryz.ntmps18
        go_wp2_with fail
        go_ret
        exact ⟨rfl, Below.refl _ _⟩
    · have hne : s.data.toList ≠ [] := fun h => by rw [h] at hl; simp at hl; omega
      rw [decide_eq_true hne, Bool.true_and]
      have hne1 : s.toList.isEmpty = false := nonempty_str h0
      have HV := Lib.hid (sy_valid s (by omega) hL)
      clear hne h0 hs hl
      rcases h12 with rfl | rfl
      · go_enter Tryz.func18, Tryz.ntmps18
        go_wp2_with fail
        refine (HV.out).mono ?_
        rintro e w1 ⟨rfl, hb⟩
        have HB := Lib.hid hb
        clear hb
        go_wp2_with fail
        go_ret
        exact ⟨rfl, HB.out⟩
      · go_enter Tryz.func18, Tryz.ntmps18
        go_wp2_with fail
        refine (HV.out).mono ?_
        rintro e w1 ⟨rfl, hb⟩
        have HB := Lib.hid hb
        clear hb
        go_wp2_with fail
        go_ret
        exact ⟨rfl, HB.out⟩
  by_cases h3 : syn = 3
  · subst h3
    have HV := Lib.hid (sy_foreign s w)
    have hV : Mt.validS 3 s.data.toList = Mt.asciiB s.data.toList := rfl
    rw [hV]
    generalize Mt.asciiB s.data.toList = b at *
    clear hV h12 hl
    go_enter Tryz.func18, Tryz.ntmps18
    go_wp2_with fail
    refine (HV.out).mono ?_
    rintro e w1 ⟨rfl, hb⟩
    have HB := Lib.hid hb
    clear hb
    cases b <;> (go_wp2_with fail; go_ret; exact ⟨rfl, HB.out⟩)
  by_cases h4 : syn = 4
  · subst h4
    have HV := Lib.hid (number_any s (by omega) w hL)
    have hV : Mt.validS 4 s.data.toList = (Mt.numV s.data.toList).isSome := rfl
    rw [hV]
    unfold NumP at HV
    generalize Mt.numV s.data.toList = o at *
    clear hV h12 hl h3
    go_enter Tryz.func18, Tryz.ntmps18
    go_wp2_with fail
    refine (HV.out).mono ?_
    rintro e w1 ⟨x, rfl, -, hb⟩
    have HB := Lib.hid hb
    clear hb
    go_wp2_with fail
    go_ret
    exact ⟨rfl, HB.out⟩
  by_cases h5 : syn = 5
  · subst h5
    have hV : Mt.validS 5 s.data.toList = Mt.truthB s.data.toList := rfl
    rw [hV]
    clear hV h12 h3 h4
    by_cases ht : s.data.toList = [84, 82, 85, 69]
    · obtain rfl : s = ⟨#[84, 82, 85, 69]⟩ := by rw [← str_id s, ht]; rfl
      clear ht hl hs
      go_enter Tryz.func18, Tryz.ntmps18
      go_wp2_with fail
      go_ret
      exact ⟨rfl, Below.refl _ _⟩
    · by_cases hf : s.data.toList = [70, 65, 76, 83, 69]
      · obtain rfl : s = ⟨#[70, 65, 76, 83, 69]⟩ := by rw [← str_id s, hf]; rfl
        clear ht hf hl hs
        go_enter Tryz.func18, Tryz.ntmps18
        go_wp2_with fail
        go_ret
        exact ⟨rfl, Below.refl _ _⟩
      · have e1 : (s.toList == [84, 82, 85, 69]) = false := str_eq_lit s _ ht
        have e2 : (s.toList == [70, 65, 76, 83, 69]) = false := str_eq_lit s _ hf
        have e3 : ¬ s.toList = [84, 82, 85, 69] := by rw [ByteArray.toList_eq]; exact ht
        have e4 : ¬ s.toList = [70, 65, 76, 83, 69] := by rw [ByteArray.toList_eq]; exact hf
        have e : Mt.truthB s.data.toList = false := by unfold Mt.truthB; rw [decide_eq_false ht, decide_eq_false hf]; rfl
        rw [e]
        clear ht hf hl hs e
        go_enter Tryz.func18, Tryz.ntmps18
        go_wp2_with fail
        go_ret
        exact ⟨rfl, Below.refl _ _⟩
  by_cases h7 : syn = 7
  · subst h7
    have hV : Mt.validS 7 s.data.toList = true := rfl
    rw [hV]
    clear hV h12 h3 h4 h5 hl hs
    go_enter Tryz.func18, Tryz.ntmps18
    go_wp2_with fail
    go_ret
    exact ⟨rfl, Below.refl _ _⟩
  by_cases h8 : syn = 8
  · subst h8
    have HV := Lib.hid (moment_any s (by omega) w)
    have hV : Mt.validS 8 s.data.toList = Mt.timeB s.data.toList := rfl
    rw [hV]
    clear hV h12 h3 h4 h5 h7 hl hs
    go_enter Tryz.func18, Tryz.ntmps18
    go_wp2_with fail
    refine (HV.out).mono ?_
    rintro e w1 ⟨rfl, hb⟩
    have HB := Lib.hid hb
    clear hb
    go_wp2_with fail
    go_ret
    exact ⟨rfl, HB.out⟩
  · have hV : Mt.validS syn s.data.toList = false := by
      unfold Mt.validS
      rw [if_neg h12, if_neg h3, if_neg h4, if_neg h5, if_neg h7, if_neg h8]
    rw [hV]
    have n1 : (syn == 1) = false := beq_eq_false_iff_ne.2 (by omega)
    have n2 : (syn == 2) = false := beq_eq_false_iff_ne.2 (by omega)
    have n3 : (syn == 3) = false := beq_eq_false_iff_ne.2 h3
    have n4 : (syn == 4) = false := beq_eq_false_iff_ne.2 h4
    have n5 : (syn == 5) = false := beq_eq_false_iff_ne.2 h5
    have n7 : (syn == 7) = false := beq_eq_false_iff_ne.2 h7
    have n8 : (syn == 8) = false := beq_eq_false_iff_ne.2 h8
    clear hV h12 h3 h4 h5 h7 h8 hl hs
    go_enter Tryz.func18, Tryz.ntmps18
    go_wp2_with fail
    go_ret
    exact ⟨rfl, Below.refl _ _⟩

/-- What Norm answers. -/
def normV (o : Option (List UInt8)) : Value := .tuple #[.string (Mt.str (Mt.optT o)), .bool o.isSome]
theorem Mt.keyL_err {l : List UInt8} {e : Nat} (h : Mt.keyL l = .error e) : 0 < e := by
  unfold Mt.keyL at h
  split at h
  · rename_i hd
    injection h with h
    subst h
    exact Mt.dnL_err hd
  · exact Mt.key_err h
set_option maxRecDepth 100000 in
theorem norm12_any (syn : Int) (s : ByteArray) (hs : s.size ≤ 140737488351232) (w : World) (hL : LaidY w) : Calls Tryz.prog 10 #[.int .i64 syn, .string s] w fun e w' => e = .returned (normV (Mt.normS syn s.data.toList)) ∧ Below w.heap.size w w' := by
  have hl : s.data.toList.length = s.size := rfl
  by_cases hbig : 4096 < s.size
  · have hN : Mt.normS syn s.data.toList = none := by unfold Mt.normS; rw [if_pos (by omega)]
    have d1 : decide ((4096 : Int) < (s.size : Int)) = true := decide_eq_true (by omega)
    rw [hN]
    clear hN hbig hl hs
    go_enter Tryz.func10, Tryz.ntmps10
    go_wp2_with fail
    go_ret2
    exact ⟨rfl, Below.refl _ _⟩
  have d1 : decide ((4096 : Int) < (s.size : Int)) = false := decide_eq_false (by omega)
  by_cases h6 : syn = 6
  · subst h6
    have HK := Lib.hid (key_any s w (by omega))
    cases hk : Mt.keyL s.data.toList with
    | ok k =>
      rw [hk] at HK
      have hN : Mt.normS 6 s.data.toList = some k := by
        unfold Mt.normS
        rw [if_neg (by omega), if_pos rfl, hk]
      rw [hN]
      clear hk hN hbig hl hs
      go_enter Tryz.func10, Tryz.ntmps10
      go_wp2_with fail
      refine (HK.out).mono ?_
      rintro e w1 ⟨rfl, hb⟩
      have HB := Lib.hid hb
      clear hb
      unfold textV
      go_wp2_with fail
      go_ret2
      exact ⟨rfl, HB.out⟩
    | error er =>
      rw [hk] at HK
      have hne : ((er : Int) == 0) = false := beq_eq_false_iff_ne.2 (by have := Mt.keyL_err hk; omega)
      have hN : Mt.normS 6 s.data.toList = none := by
        unfold Mt.normS
        rw [if_neg (by omega), if_pos rfl, hk]
      rw [hN]
      clear hk hN hbig hl hs
      go_enter Tryz.func10, Tryz.ntmps10
      go_wp2_with fail
      refine (HK.out).mono ?_
      rintro e w1 ⟨rfl, hb⟩
      have HB := Lib.hid hb
      clear hb
      unfold textV
      go_wp2_with fail
      go_ret2
      exact ⟨rfl, HB.out⟩
  · have n6 : (syn == 6) = false := beq_eq_false_iff_ne.2 h6
    have HV := Lib.hid (valid_any syn s (by omega) w hL)
    have hN : Mt.normS syn s.data.toList = if Mt.validS syn s.data.toList = false then none else if syn = 1 ∨ syn = 3 then some (Mt.prep s.data.toList) else some s.data.toList := by
      unfold Mt.normS
      rw [if_neg (by omega), if_neg h6]
    rw [hN]
    obtain ⟨b, hbv⟩ : ∃ b, Mt.validS syn s.data.toList = b := ⟨_, rfl⟩
    rw [hbv] at HV ⊢
    cases b with
    | false =>
      rw [if_pos rfl]
      clear hbv hN hbig hl hs
      go_enter Tryz.func10, Tryz.ntmps10
      go_wp2_with fail
      refine (HV.out).mono ?_
      rintro e w1 ⟨rfl, hb⟩
      have HB := Lib.hid hb
      clear hb
      go_wp2_with fail
      go_ret2
      exact ⟨rfl, HB.out⟩
    | true =>
      rw [if_neg (by decide)]
      have HP := Lib.hid (fun u => prep_any s u hs)
      by_cases h13 : syn = 1 ∨ syn = 3
      · rw [if_pos h13]
        clear hbv hN hbig hl hs
        rcases h13 with rfl | rfl
        all_goals
          go_enter Tryz.func10, Tryz.ntmps10
          go_wp2_with fail
          refine (HV.out).mono ?_
          rintro e w1 ⟨rfl, hb⟩
          have HB := Lib.hid hb
          clear hb
          go_wp2_with fail
          refine (HP.out _).mono ?_
          rintro e w2 ⟨rfl, hb⟩
          have HB2 := Lib.hid (HB.out.trans (hb.mono HB.out.size))
          clear hb
          go_wp2_with fail
          go_ret2
          exact ⟨rfl, HB2.out⟩
      · rw [if_neg h13]
        have n1 : (syn == 1) = false := beq_eq_false_iff_ne.2 (by omega)
        have n3 : (syn == 3) = false := beq_eq_false_iff_ne.2 (by omega)
        clear hbv hN hbig hl hs h13
        go_enter Tryz.func10, Tryz.ntmps10
        go_wp2_with fail
        refine (HV.out).mono ?_
        rintro e w1 ⟨rfl, hb⟩
        have HB := Lib.hid hb
        clear hb
        go_wp2_with fail
        go_ret2
        exact ⟨rfl, HB.out⟩
end Go.Proofs.YtdfpnhdamkogcaaGreatDoor
