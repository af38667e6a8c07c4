/-
  Some texts of one proof, one behind the other.
-/
import Derived.Test.YtngdbhncafnliaaGreatPk12
import Derived.Test.YtngdbhncafnliaaGreatPk13
import Derived.Test.YtngdbhncafnliaaGreatPk14
set_option linter.unusedVariables false
set_option linter.unusedSimpArgs false

/-
  What the calls dn.readByte and has come to.
-/
namespace Go.Proofs.YtngdbhncafnliaaGreat
open Go.RowKit

/-- What readByte answers. -/
def byteV : Option (UInt8 × Nat) → Value
  | none => .tuple #[.int .u8 0, .int .i64 0, .bool false]
  | some (c, n) => .tuple #[.int .u8 c.toNat, .int .i64 n, .bool true]
theorem Mt.spec_index : ∀ n : Fin 256, decide (0 ≤ Lib.indexByte [34, 43, 44, 59, 60, 62, 92, 32, 35, 61] (UInt8.ofNat n)) = Mt.specN n := by decide +kernel
theorem Mt.unhex_two (d e : UInt8) : (Mt.unhex [d, e]) = match Mt.hv d.toNat, Mt.hv e.toNat with | some x, some y => ([UInt8.ofNat (16 * x + y)], true) | _, _ => ([], false) := by
  cases hx : Mt.hv d.toNat with
  | none =>
    rw [Mt.unhex_bad (l := [d, e]) (k := 0) (by simp) (Mt.pv_none1 (by simpa using hx))]
  | some x =>
    cases hy : Mt.hv e.toNat with
    | none => rw [Mt.unhex_bad (l := [d, e]) (k := 0) (by simp) (Mt.pv_none2 (by simpa using hy))]
    | some y =>
      have hp := Mt.pv_some (l := [d, e]) (k := 0) (x := x) (y := y) (by simpa using hx) (by simpa using hy)
      have hu := Mt.uh_some (l := [d, e]) (k := 0) (o := []) rfl hp
      rw [Mt.unhex_good (l := [d, e]) (o := [UInt8.ofNat (16 * x + y)]) (by simp) (by simpa using hu)]

theorem Mt.two_of {s : ByteArray} (h : 1 < s.size) : ∃ r, s.data.toList = s[0] :: s[1] :: r ∧ r.length = s.size - 2 := by
  have hl : s.data.toList.length = s.size := rfl
  match hs : s.data.toList with
  | [] => rw [hs] at hl; simp at hl; omega
  | [c] => rw [hs] at hl; simp at hl; omega
  | c :: d :: r =>
    have h0 : s[0] = c := by
      have : s.data.toList[0]'(by omega) = c := by simp [hs]
      exact this
    have h1 : s[1] = d := by
      have : s.data.toList[1]'(by omega) = d := by simp [hs]
      exact this
    exact ⟨r, by rw [h0, h1], by rw [hs] at hl; simp at hl; omega⟩
theorem Mt.three_of {s : ByteArray} (h : 2 < s.size) : ∃ r, s.data.toList = s[0] :: s[1] :: s[2] :: r ∧ s.extract 1 3 = Mt.str [s[1], s[2]] := by
  have hl : s.data.toList.length = s.size := rfl
  match hs : s.data.toList with
  | [] => rw [hs] at hl; simp at hl; omega
  | [c] => rw [hs] at hl; simp at hl; omega
  | [c, d] => rw [hs] at hl; simp at hl; omega
  | c :: d :: e :: r =>
    have h0 : s[0] = c := by
      have : s.data.toList[0]'(by omega) = c := by simp [hs]
      exact this
    have h1 : s[1] = d := by
      have : s.data.toList[1]'(by omega) = d := by simp [hs]
      exact this
    have h2 : s[2] = e := by
      have : s.data.toList[2]'(by omega) = e := by simp [hs]
      exact this
    refine ⟨r, by rw [h0, h1, h2], ?_⟩
    apply ByteArray.ext
    rw [ByteArray.data_extract]
    apply Array.ext'
    simp [Mt.str, Array.toList_extract, List.extract, hs, h1, h2]

set_option maxRecDepth 100000 in
theorem readByte_any (s : ByteArray) (w : World) (h0 : 0 < s.size) (hs : s.size ≤ 140737488351232) :
    Calls Tryz.prog 120 #[.string s] w fun e w' => e = .returned (byteV (Mt.byteL s.data.toList)) ∧ Below w.heap.size w w' := by
  obtain ⟨r, hr, hrl, _⟩ := Mt.cons_of h0
  by_cases h92 : s[0].toNat = 92
  · have hb92 : ((s[0].toNat : Int) != 92) = false := by simp [h92]
    have hc92 : s[0] = 92 := Mt.u8_ext (by show s[0].toNat = 92; exact h92)
    by_cases h1 : 1 < s.size
    · have hd1 : decide ((1 : Int) < s.size) = true := decide_eq_true (by omega)
      obtain ⟨r2, hr2, hrl2⟩ := Mt.two_of h1
      have hix := Mt.spec_index ⟨s[1].toNat, s[1].toNat_lt⟩
      simp only [UInt8.ofNat_toNat] at hix
      have HI := Lib.hid (indexByte_any ⟨#[34, 43, 44, 59, 60, 62, 92, 32, 35, 61]⟩ (s[1].toNat : Int) w)
      have e : ((s[1].toNat : Int).toNat.toUInt8) = s[1] := by simp
      rw [e] at HI
      clear e
      by_cases hsp : Mt.specN s[1].toNat = true
      · rw [hsp] at hix
        have HV : Hid (Mt.byteL s.data.toList = some (s[1], 2)) := by
          rw [hr2]; exact Lib.hid (by simp [Mt.byteL, hc92, hsp])
        rw [HV.out]
        clear hr hr2 hc92 hsp HV
        generalize Lib.indexByte _ s[1] = ix at *
        go_enter Tryz.func120, Tryz.ntmps120
        go_wp2_with (go_at_call 126; refine (HI.out).mono ?_; rintro e w' ⟨rfl, rfl⟩)
        exact bodyPost_ret (v := byteV (some (s[1], 2))) (by simp [results, Tryz.results120, go_sem, byteV]) rfl ⟨rfl, Below.refl _ _⟩
      · have hsp : Mt.specN s[1].toNat = false := by simpa using hsp
        rw [hsp] at hix
        by_cases h2 : 2 < s.size
        · have hd2 : decide ((2 : Int) < s.size) = true := decide_eq_true (by omega)
          obtain ⟨r3, hr3, hx3⟩ := Mt.three_of h2
          have hx3' : s.extract 1 3 = Mt.str [s[1], s[2]] := hx3
          have hi3 : (3 : Int) ≤ s.size := by omega
          have HU := Lib.hid (unhex_any (Mt.str [s[1], s[2]]) w (by rw [Mt.str_size]; simp))
          rw [Mt.str_data, Mt.unhex_two] at HU
          cases hx : Mt.hv s[1].toNat with
          | none =>
            have HV : Hid (Mt.byteL s.data.toList = none) := by
              rw [hr3]; exact Lib.hid (by simp [Mt.byteL, hc92, hsp, hx])
            rw [HV.out]
            simp only [hx] at HU
            clear hr hr2 hr3 hc92 hsp HV hx
            generalize Lib.indexByte _ s[1] = ix at *
            go_enter Tryz.func120, Tryz.ntmps120
            go_wp2_with (first | (go_at_call 126; refine (HI.out).mono ?_; rintro e w' ⟨rfl, rfl⟩) | (go_at_call 127; refine (HU.out).mono ?_; rintro e w' ⟨rfl, hb⟩; have HB := Lib.hid hb; clear hb))
            exact bodyPost_ret (v := byteV none) (by simp [results, Tryz.results120, go_sem, byteV]) rfl ⟨rfl, HB.out⟩
          | some x =>
            cases hy : Mt.hv s[2].toNat with
            | none =>
              have HV : Hid (Mt.byteL s.data.toList = none) := by
                rw [hr3]; exact Lib.hid (by simp [Mt.byteL, hc92, hsp, hx, hy])
              rw [HV.out]
              simp only [hx, hy] at HU
              clear hr hr2 hr3 hc92 hsp HV hx hy
              generalize Lib.indexByte _ s[1] = ix at *
              go_enter Tryz.func120, Tryz.ntmps120
              go_wp2_with (first | (go_at_call 126; refine (HI.out).mono ?_; rintro e w' ⟨rfl, rfl⟩) | (go_at_call 127; refine (HU.out).mono ?_; rintro e w' ⟨rfl, hb⟩; have HB := Lib.hid hb; clear hb))
              exact bodyPost_ret (v := byteV none) (by simp [results, Tryz.results120, go_sem, byteV]) rfl ⟨rfl, HB.out⟩
            | some y =>
              have HV : Hid (Mt.byteL s.data.toList = some (UInt8.ofNat (16 * x + y), 3)) := by
                rw [hr3]; exact Lib.hid (by simp [Mt.byteL, hc92, hsp, hx, hy])
              rw [HV.out]
              simp only [hx, hy] at HU
              generalize UInt8.ofNat (16 * x + y) = q at *
              have hq0 : (Mt.str [q]).size = 1 := by rw [Mt.str_size]; rfl
              have hq1 : 0 < (Mt.str [q]).size := by omega
              have hq : (Mt.str [q])[0] = q := rfl
              clear hr hr2 hr3 hc92 hsp HV hx hy
              generalize Lib.indexByte _ s[1] = ix at *
              go_enter Tryz.func120, Tryz.ntmps120
              go_wp2_with (first | (go_at_call 126; refine (HI.out).mono ?_; rintro e w' ⟨rfl, rfl⟩) | (go_at_call 127; refine (HU.out).mono ?_; rintro e w' ⟨rfl, hb⟩; have HB := Lib.hid hb; clear hb))
              exact bodyPost_ret (v := byteV (some (q, 3))) (by simp [results, Tryz.results120, go_sem, byteV, hq]) rfl ⟨rfl, HB.out⟩
        · have hd2 : decide ((2 : Int) < s.size) = false := decide_eq_false (by omega)
          have HV : Hid (Mt.byteL s.data.toList = none) := by
            have : r2 = [] := List.eq_nil_of_length_eq_zero (by omega)
            subst this
            rw [hr2]; exact Lib.hid (by simp [Mt.byteL, hc92, hsp])
          rw [HV.out]
          clear hr hr2 hc92 hsp HV
          generalize Lib.indexByte _ s[1] = ix at *
          go_enter Tryz.func120, Tryz.ntmps120
          go_wp2_with (go_at_call 126; refine (HI.out).mono ?_; rintro e w' ⟨rfl, rfl⟩)
          exact bodyPost_ret (v := byteV none) (by simp [results, Tryz.results120, go_sem, byteV]) rfl ⟨rfl, Below.refl _ _⟩
    · have hd1 : decide ((1 : Int) < s.size) = false := decide_eq_false (by omega)
      have hd2 : decide ((2 : Int) < s.size) = false := decide_eq_false (by omega)
      have HV : Hid (Mt.byteL s.data.toList = none) := by
        have : r = [] := List.eq_nil_of_length_eq_zero (by omega)
        subst this
        rw [hr]; exact Lib.hid (by simp [Mt.byteL, hc92])
      rw [HV.out]
      clear hr hc92 HV
      go_enter Tryz.func120, Tryz.ntmps120
      go_wp2
      exact bodyPost_ret (v := byteV none) (by simp [results, Tryz.results120, go_sem, byteV]) rfl ⟨rfl, Below.refl _ _⟩
  · have hb92 : ((s[0].toNat : Int) != 92) = true := by simp; omega
    have HV : Hid (Mt.byteL s.data.toList = some (s[0], 1)) := by
      have : s[0] ≠ 92 := fun e => h92 (by rw [e]; rfl)
      rw [hr]; exact Lib.hid (by simp [Mt.byteL, this])
    rw [HV.out]
    clear hr h92 HV
    go_enter Tryz.func120, Tryz.ntmps120
    go_wp2
    exact bodyPost_ret (v := byteV (some (s[0], 1))) (by simp [results, Tryz.results120, go_sem, byteV]) rfl ⟨rfl, Below.refl _ _⟩
end Go.Proofs.YtngdbhncafnliaaGreat
