/-
  Whether a text is a time.
-/
import Derived.Test.YtfogcgegllhmmaaGreatDoorSyB
import Derived.Deep.RegionLaw
import Derived.Deep.Cut
import Derived.Deep.DeepCutAuto
namespace Go.Proofs.YtfogcgegllhmmaaGreatDoor
open Go.RowKit Go.Lib

theorem Mt.suffix_z (l : List UInt8) : hasSuffix l [90] = true ↔ ∃ r, l = r ++ [90] := by
  unfold hasSuffix
  rw [List.isSuffixOf_iff_suffix]
  exact ⟨fun ⟨r, h⟩ => ⟨r, h.symm⟩, fun ⟨r, h⟩ => ⟨r, h.symm⟩⟩
theorem Mt.time_suffix {l : List UInt8} (h : hasSuffix l [90] = false) : Mt.timeB l = false := by
  rw [Bool.eq_false_iff]
  intro ht
  unfold Mt.timeB at ht
  simp only [Bool.and_eq_true, decide_eq_true_eq] at ht
  have : hasSuffix l [90] = true := (Mt.suffix_z l).2 ⟨l.take 14, by rw [← ht.1.2, List.take_append_drop]⟩
  rw [h] at this; cases this
theorem Mt.time_length {l : List UInt8} (h : l.length ≠ 15) : Mt.timeB l = false := by
  unfold Mt.timeB
  rw [decide_eq_false h]; rfl
/-- Fourteen bytes ahead of a Z. -/
theorem Mt.time_z {r : List UInt8} (h : r.length = 14) : Mt.timeB (r ++ [90]) = (decide (∀ c ∈ r, Mt.isD c) && Mt.okD r) := by
  have e1 : (r ++ [90]).take 14 = r := by rw [← h, List.take_left']; rfl
  have e2 : (r ++ [90]).drop 14 = [90] := by rw [← h, List.drop_left']; rfl
  unfold Mt.timeB
  rw [e1, e2]
  simp [h]
theorem ext_data (d : ByteArray) (a b : Nat) : (d.extract a b).data.toList = (d.data.toList.drop a).take (b - a) := by
  have h := extract_toList d a b
  rw [ByteArray.toList_eq] at h
  exact h
theorem ext_size (d : ByteArray) (a b : Nat) (h : b ≤ d.size) : (d.extract a b).size = b - a := by
  have e : (d.extract a b).data.toList.length = (d.extract a b).size := rfl
  have e2 : d.data.toList.length = d.size := rfl
  rw [← e, ext_data, List.length_take, List.length_drop]
  omega
theorem count_ext (d : ByteArray) (hd : ∀ c ∈ d.data.toList, Mt.isD c) (a b : Nat) (hb : b ≤ d.size) (h4 : b - a ≤ 4) (u : World) : Calls Tryz.prog 67 #[.string (d.extract a b)] u fun e w' => e = .returned (.int .i64 (Mt.seg d.data.toList a b : Int)) ∧ Below u.heap.size u w' := by
  have h := count_any (d.extract a b) (fun c hc => by
    rw [ext_data] at hc
    exact hd c (List.mem_of_mem_drop (List.mem_of_mem_take hc))) (by rw [ext_size d a b hb]; exact h4) u
  rw [ext_data] at h
  exact h
theorem seg_lt (l : List UInt8) (hd : ∀ c ∈ l, Mt.isD c) (a b : Nat) (h : b - a ≤ 4) : Mt.seg l a b < 10000 := by
  have h1 := Mt.ten_lt ((l.drop a).take (b - a)) (fun c hc => hd c (List.mem_of_mem_drop (List.mem_of_mem_take hc)))
  have h2 : 10 ^ ((l.drop a).take (b - a)).length ≤ 10 ^ 4 := Nat.pow_le_pow_right (by decide) (by rw [List.length_take]; omega)
  have h3 : (10 : Nat) ^ 4 = 10000 := by decide
  unfold Mt.seg
  omega
set_option maxHeartbeats 4000000 in
set_option maxRecDepth 100000 in
/-- Fourteen digits, and a Z. -/
theorem moment_z (d : ByteArray) (hd : ∀ c ∈ d.data.toList, Mt.isD c) (h14 : d.size = 14) (s : ByteArray) (hs : s.size ≤ 9223372036854775807) (hz : s.data.toList = d.data.toList ++ [90]) (w : World) : Calls Tryz.prog 42 #[.string s] w fun e w' => e = .returned (.bool (Mt.okD d.data.toList)) ∧ Below w.heap.size w w' := by
  have hsuf : hasSuffix s.data.toList (⟨#[90]⟩ : ByteArray).data.toList = true := (Mt.suffix_z _).2 ⟨_, hz⟩
  have htr : trimSuffix s.data.toList (⟨#[90]⟩ : ByteArray).data.toList = d.data.toList := by
    unfold trimSuffix
    rw [if_pos hsuf, hz]
    simp
  have HCS := Lib.hid (sy_cuts s ⟨#[90]⟩ hs w)
  rw [hsuf, htr, str_id] at HCS
  have HST := Lib.hid (sy_strange d w)
  rw [show (!decide (∀ c ∈ d.data.toList, Mt.isD c)) = false by rw [decide_eq_true hd]; rfl] at HST
  have HC := Lib.hid (fun a b u (hb : b ≤ d.size) (h4 : b - a ≤ 4) => count_ext d hd a b hb h4 u)
  have HDY := Lib.hid (fun y m u (hy : y ≤ 100000) => days_any y m hy u)
  have HLT := Lib.hid (fun a b h => seg_lt d.data.toList hd a b h)
  have HOK : Hid (Mt.okD d.data.toList = Mt.okT (Mt.seg d.data.toList 0 4) (Mt.seg d.data.toList 4 6) (Mt.seg d.data.toList 6 8) (Mt.seg d.data.toList 8 10) (Mt.seg d.data.toList 10 12) (Mt.seg d.data.toList 12 14)) := Lib.hid rfl
  have k1 : ¬ d.size < 4 := by omega
  have HZ := Lib.hid h14
  generalize Mt.okD d.data.toList = ok at *
  generalize d.data.toList = l at *
  have hsz : (d.size : Int) = 14 := by omega
  have hsz2 : d.size = 14 := h14
  clear hsuf htr hd hz hs h14 k1
  go_enter Tryz.func42, Tryz.ntmps42
  go_wp2_with fail
  refine (HCS.out).mono ?_
  rintro e w1 ⟨rfl, rfl⟩
  clear HCS
  go_wp2_with fail
  refine (HST.out).mono ?_
  rintro e w2 ⟨rfl, hb⟩
  have HB2 := Lib.hid hb
  clear hb HST
  go_upto_region 4 with fail
  go_cut [5, 6, 7] from 27 (fun t5 t6 t7 wx => t5 = .int .i64 (Mt.seg l 0 4 : Int) ∧ t6 = .int .i64 (Mt.seg l 4 6 : Int) ∧ t7 = .int .i64 (Mt.seg l 6 8 : Int) ∧ Hid (Below w.heap.size w wx))
  case first =>
    replace HB2 := Lib.hid (HB2.out.drew)
    go_region_law (first | (go_simp; go_at_call 67; refine (HC.out _ _ _ (by omega) (by omega)).mono ?_; rintro e wx ⟨rfl, hb⟩; have HB2 := Lib.hid (HB2.out.trans (hb.mono HB2.out.size)); clear hb))
    all_goals
      go_wp2_with fail
      go_meet
      case rel => exact ⟨rfl, rfl, rfl, HB2⟩
  case rest =>
    obtain ⟨rfl, rfl, rfl, HB3⟩ := hcut
    clear HB2
    go_upto_region 5 with fail
    go_cut [8, 9, 10] from 36 (fun t5 t6 t7 wx => t5 = .int .i64 (Mt.seg l 8 10 : Int) ∧ t6 = .int .i64 (Mt.seg l 10 12 : Int) ∧ t7 = .int .i64 (Mt.seg l 12 14 : Int) ∧ Hid (Below w.heap.size w wx))
    case first =>
      replace HB3 := Lib.hid (HB3.out.drew)
      go_region_law (first | (go_simp; go_at_call 67; refine (HC.out _ _ _ (by omega) (by omega)).mono ?_; rintro e wx ⟨rfl, hb⟩; have HB3 := Lib.hid (HB3.out.trans (hb.mono HB3.out.size)); clear hb))
      all_goals
        go_wp2_with fail
        go_meet
        case rel => exact ⟨rfl, rfl, rfl, HB3⟩
    case rest =>
      obtain ⟨rfl, rfl, rfl, HB4⟩ := hcut
      clear HB3 HC
      have b1 := HLT.out 0 4 (by omega)
      have HDD := Lib.hid (HDY.out (Mt.seg l 0 4) (Mt.seg l 4 6) wc (by omega))
      generalize Mt.seg l 0 4 = y at *
      generalize Mt.seg l 4 6 = m at *
      generalize Mt.seg l 6 8 = dd at *
      generalize Mt.seg l 8 10 = h at *
      generalize Mt.seg l 10 12 = i at *
      generalize Mt.seg l 12 14 = sc at *
      clear HLT HDY b1
      obtain ⟨LD, hLD⟩ : ∃ n, Mt.lastD y m = n := ⟨_, rfl⟩
      rw [hLD] at HDD
      have HOK2 : Hid (ok = (decide ((1 : Int) ≤ (m : Int)) && (decide ((m : Int) ≤ 12) && (decide ((1 : Int) ≤ (dd : Int)) && (decide ((dd : Int) ≤ (LD : Int)) && (decide ((h : Int) ≤ 23) && (decide ((i : Int) ≤ 59) && decide ((sc : Int) ≤ 59)))))))) := Lib.hid (by
        rw [HOK.out]
        unfold Mt.okT
        rw [hLD, Bool.eq_iff_iff]
        simp only [Bool.and_eq_true, decide_eq_true_eq]
        omega)
      clear hLD HOK
      obtain ⟨c1, h1⟩ : ∃ b, decide ((1 : Int) ≤ (m : Int)) = b := ⟨_, rfl⟩
      obtain ⟨c2, h2⟩ : ∃ b, decide ((m : Int) ≤ 12) = b := ⟨_, rfl⟩
      obtain ⟨c3, h3⟩ : ∃ b, decide ((1 : Int) ≤ (dd : Int)) = b := ⟨_, rfl⟩
      obtain ⟨c4, h4⟩ : ∃ b, decide ((dd : Int) ≤ (LD : Int)) = b := ⟨_, rfl⟩
      obtain ⟨c5, h5⟩ : ∃ b, decide ((h : Int) ≤ 23) = b := ⟨_, rfl⟩
      obtain ⟨c6, h6⟩ : ∃ b, decide ((i : Int) ≤ 59) = b := ⟨_, rfl⟩
      obtain ⟨c7, h7⟩ : ∃ b, decide ((sc : Int) ≤ 59) = b := ⟨_, rfl⟩
      have h4n : decide (dd ≤ LD) = c4 := by rw [← h4, decide_eq_decide]; omega
      rw [h1, h2, h3, h4, h5, h6, h7] at HOK2
      cases c1 with
      | false =>
        go_wp2_with fail
        go_ret
        exact ⟨by rw [HOK2.out]; rfl, HB4.out⟩
      | true =>
        cases c2 with
        | false =>
          go_wp2_with fail
          go_ret
          exact ⟨by rw [HOK2.out]; rfl, HB4.out⟩
        | true =>
          cases c3 with
          | false =>
            go_wp2_with fail
            go_ret
            exact ⟨by rw [HOK2.out]; rfl, HB4.out⟩
          | true =>
            go_wp2_with fail
            refine (HDD.out).mono ?_
            rintro e w5 ⟨rfl, rfl⟩
            cases c4 <;> cases c5 <;> cases c6 <;> cases c7 <;> (go_wp2_with fail; go_ret; exact ⟨by rw [HOK2.out]; rfl, HB4.out⟩)
/-- Whether a text is a time. -/
theorem moment_any (s : ByteArray) (hs : s.size ≤ 9223372036854775807) (w : World) : Calls Tryz.prog 42 #[.string s] w fun e w' => e = .returned (.bool (Mt.timeB s.data.toList)) ∧ Below w.heap.size w w' := by
  have HCS := Lib.hid (sy_cuts s ⟨#[90]⟩ hs w)
  have hl : s.data.toList.length = s.size := rfl
  by_cases hsuf : hasSuffix s.data.toList [90] = true
  · obtain ⟨r, hr⟩ := (Mt.suffix_z _).1 hsuf
    have hrl : s.size = r.length + 1 := by rw [← hl, hr]; simp
    have htr : trimSuffix s.data.toList [90] = r := by
      unfold trimSuffix
      rw [if_pos hsuf, hr]
      simp
    by_cases h14 : r.length = 14
    · by_cases hd : ∀ c ∈ r, Mt.isD c
      · have := moment_z (Mt.str r) (by rw [Mt.str_data]; exact hd) (by rw [Mt.str_size]; exact h14) s hs (by rw [Mt.str_data]; exact hr) w
        rw [Mt.str_data] at this
        rw [hr, Mt.time_z h14, decide_eq_true hd, Bool.true_and]
        exact this
      · rw [hr, Mt.time_z h14, decide_eq_false hd, Bool.false_and]
        have HST := Lib.hid (sy_strange (Mt.str r) w)
        rw [Mt.str_data, decide_eq_false hd] at HST
        rw [show (⟨#[90]⟩ : ByteArray).data.toList = [90] from rfl, hsuf, htr] at HCS
        have hz : ((Mt.str r).size : Int) = 14 := by rw [Mt.str_size]; omega
        have hz2 : (Mt.str r).size = 14 := by rw [Mt.str_size]; omega
        generalize Mt.str r = d at *
        clear hr hrl htr h14 hd hsuf hl hs
        go_enter Tryz.func42, Tryz.ntmps42
        go_wp2_with fail
        refine (HCS.out).mono ?_
        rintro e w1 ⟨rfl, rfl⟩
        clear HCS
        go_wp2_with fail
        refine (HST.out).mono ?_
        rintro e w2 ⟨rfl, hb⟩
        have HB2 := Lib.hid hb
        clear hb HST
        go_wp2_with fail
        go_ret
        exact ⟨rfl, HB2.out⟩
    · rw [Mt.time_length (l := s.data.toList) (by rw [hr]; simp; omega)]
      rw [show (⟨#[90]⟩ : ByteArray).data.toList = [90] from rfl, hsuf, htr] at HCS
      have hz : ((Mt.str r).size : Int) ≠ 14 := by rw [Mt.str_size]; omega
      have hz2 : (((Mt.str r).size : Int) != 14) = true := by simpa using hz
      generalize Mt.str r = d at *
      clear hr hrl htr h14 hsuf hl hs hz
      go_enter Tryz.func42, Tryz.ntmps42
      go_wp2_with fail
      refine (HCS.out).mono ?_
      rintro e w1 ⟨rfl, rfl⟩
      clear HCS
      go_wp2_with fail
      go_ret
      exact ⟨rfl, Below.refl _ _⟩
  · have hsuf : hasSuffix s.data.toList [90] = false := by simpa using hsuf
    rw [Mt.time_suffix hsuf]
    rw [show (⟨#[90]⟩ : ByteArray).data.toList = [90] from rfl, hsuf] at HCS
    generalize Mt.str (trimSuffix s.data.toList [90]) = d at *
    clear hsuf hl hs
    go_enter Tryz.func42, Tryz.ntmps42
    go_wp2_with fail
    refine (HCS.out).mono ?_
    rintro e w1 ⟨rfl, rfl⟩
    clear HCS
    go_wp2_with fail
    go_ret
    exact ⟨rfl, Below.refl _ _⟩
end Go.Proofs.YtfogcgegllhmmaaGreatDoor
