/-
  What tlv.Int, Number and Bool come to, and the document's signed, Int and Number.
-/
import Derived.Test.YtcijjblcoelabaaPutB
import Derived.Test.YtcijjblcoelabaaTv
import Derived.Test.YtcijjblcoelabaaTvNum
set_option linter.unusedVariables false
set_option linter.unusedSimpArgs false
namespace Go.Proofs.Ytcijjblcoelabaa
open Go.RowKit

theorem Mt.u64_wrap (n : Int) : IntKind.u64.wrap n = (((n % 18446744073709551616).toNat : Nat) : Int) := by
  simp [IntKind.wrap, IntKind.bits, IntKind.signed]
  omega

set_option maxRecDepth 100000 in
theorem int_any (n : Int) (w : World) (h0 : -9223372036854775808 ≤ n) (h1 : n ≤ 9223372036854775807) : Calls Try.prog 50 #[.int .i64 n] w fun e w' => e = .returned (.string (Mt.str (Mt.intL n))) ∧ Below w.heap.size w w' := by
  have hz := Mt.isz_le n
  have hw := Mt.u64_wrap n
  have HP := Lib.hid (fun k (hk : 1 ≤ k ∧ k ≤ 8) => put_yes (n % 18446744073709551616).toNat k w hk.1 hk.2)
  have HF := Lib.hid (fun k (hk1 : 1 ≤ k) (hk : k ≤ Mt.isz n) => Mt.fits_iff n k h0 h1 hk1 hk)
  have HS : Hid (Mt.intL n = Mt.beU (n % 18446744073709551616).toNat (Mt.isz n)) := Lib.hid rfl
  generalize (n % 18446744073709551616).toNat = N at *
  generalize Mt.isz n = z at *
  generalize Mt.intL n = L at *
  go_enter Try.func50, Try.ntmps50
  go_wp2_with fail
  go_loop [3] (fun i => ∃ k : Nat, 1 ≤ k ∧ k ≤ z ∧ i = .int .i64 k) (fun i => 8 - (intOf i).toNat)
  case atStart => exact ⟨1, by omega, by omega, rfl⟩
  case round =>
    obtain ⟨k, hk1, hkz, rfl⟩ := hrel
    have hk8 : k ≤ 8 := by omega
    by_cases hk : k = z
    · subst hk
      have ht : (n / 2 ^ (8 * k - 1) != n / 9223372036854775808) = false := by simpa using (HF.out k hk1 hkz).2 rfl
      go_wp2_with fail
      refine (HP.out k ⟨hk1, hk8⟩).mono ?_
      rintro e w' ⟨rfl, hb⟩
      have HB := Lib.hid hb
      clear hb
      go_wp2_with fail
      go_ret
      exact ⟨Mt.ret_str (by rw [HS.out, Mt.str_be]), HB.out⟩
    · have ht : (n / 2 ^ (8 * k - 1) != n / 9223372036854775808) = true := by simpa using fun e => hk ((HF.out k hk1 hkz).1 e)
      go_wp2_with fail
      go_round
      case rel => exact ⟨k + 1, by omega, by omega, by go_num⟩
      case measure => simp [intOf]; omega

set_option maxRecDepth 100000 in
theorem signed_any (s : ByteArray) (w : World) (h1 : 1 ≤ s.size) (h8 : s.size ≤ 8) : Calls Try.prog 68 #[.string s] w fun e w' => e = .returned (.int .i64 (Mt.sgn s.data.toList)) ∧ w = w' := by
  have hl : s.data.toList.length = s.size := rfl
  have h0 : s.data.toList.getD 0 0 = s[0] := by
    obtain ⟨r, hr, _⟩ := Mt.cons_of (s := s) (by omega)
    rw [hr]; rfl
  have hz := Mt.sg_zero s.data.toList
  rw [h0] at hz
  have hlt := s[0].toNat_lt
  have HR := Lib.hid (fun i (hi : i ≤ 7) (hs : i ≤ s.size) => Mt.sg_range s.data.toList i hi (by rw [hl]; exact hs))
  have HG : Hid (∀ i (hi : i < s.size), Mt.sg s.data.toList (i + 1) = Mt.sg s.data.toList i * 256 + (s[i].toNat : Int)) := fun i hi => by
    rw [Mt.sg_succ]
    congr 3
    have : s[i] = s.data.toList[i]'(by rw [hl]; exact hi) := rfl
    rw [this]
    simp [List.getD, List.getElem?_eq_getElem (show i < s.data.toList.length by rw [hl]; exact hi)]
  have HA := Lib.hid (Mt.sg_all s.data.toList)
  rw [hl] at HA
  generalize Mt.sgn s.data.toList = S at *
  generalize hF : Mt.sg s.data.toList = F at *
  clear hF h0 hl
  by_cases hneg : 128 ≤ s[0].toNat
  · have hn2 : decide (128 ≤ s[0].toNat) = true := by simpa using hneg
    rw [if_pos hneg] at hz
    have HZ := Lib.hid hz
    clear hz
    go_enter Try.func68, Try.ntmps68
    go_wp2
    go_loop [3, 4] (fun n i => ∃ k : Nat, k ≤ s.size ∧ i = .int .i64 k ∧ n = .int .i64 (F k)) (fun _ i => s.size - (intOf i).toNat)
    case atStart => exact ⟨0, Nat.zero_le _, rfl, by rw [HZ.out]⟩
    case round =>
      obtain ⟨k, hk, rfl, rfl⟩ := hrel
      by_cases hlt : k < s.size
      · have hr := HR.out k (by omega) hk
        have hg := HG.out k hlt
        have hb := s[k].toNat_lt
        have HG2 := Lib.hid hg
        generalize hFk : F k = f at *
        have hr1 := hr.1
        have hr2 := hr.2
        clear hg hFk hr
        go_wp2
        go_round
        case rel => exact ⟨k + 1, by omega, by go_num, by rw [HG2.out]⟩
        case measure => simp [intOf]; omega
      · go_wp2
        go_ret
        obtain rfl : k = s.size := by omega
        exact ⟨Mt.ret_int HA.out.symm, rfl⟩
  · have hn2 : decide (128 ≤ s[0].toNat) = false := by simpa using hneg
    rw [if_neg hneg] at hz
    have HZ := Lib.hid hz
    clear hz
    go_enter Try.func68, Try.ntmps68
    go_wp2
    go_loop [3, 4] (fun n i => ∃ k : Nat, k ≤ s.size ∧ i = .int .i64 k ∧ n = .int .i64 (F k)) (fun _ i => s.size - (intOf i).toNat)
    case atStart => exact ⟨0, Nat.zero_le _, rfl, by rw [HZ.out]⟩
    case round =>
      obtain ⟨k, hk, rfl, rfl⟩ := hrel
      by_cases hlt : k < s.size
      · have hr := HR.out k (by omega) hk
        have hg := HG.out k hlt
        have hb := s[k].toNat_lt
        have HG2 := Lib.hid hg
        generalize hFk : F k = f at *
        have hr1 := hr.1
        have hr2 := hr.2
        clear hg hFk hr
        go_wp2
        go_round
        case rel => exact ⟨k + 1, by omega, by go_num, by rw [HG2.out]⟩
        case measure => simp [intOf]; omega
      · go_wp2
        go_ret
        obtain rfl : k = s.size := by omega
        exact ⟨Mt.ret_int HA.out.symm, rfl⟩

set_option maxRecDepth 100000 in
theorem rint_any (n : Int) (w : World) (h0 : -9223372036854775808 ≤ n) (h1 : n ≤ 9223372036854775807) : Calls Try.prog 51 #[.int .i64 n] w fun e w' => e = .returned (.string (Mt.str (Mt.intL n))) ∧ Below w.heap.size w w' := by
  have hz := Mt.isz_le n
  have hw := Mt.u64_wrap n
  have hN : (n % 18446744073709551616).toNat < 18446744073709551616 := by omega
  have HP := Lib.hid (fun k (W : World) (hk : k ≤ 8) => rput_yes (n % 18446744073709551616).toNat k W hN hk)
  have HF := Lib.hid (fun k (hk1 : 1 ≤ k) (hk : k ≤ Mt.isz n) => Mt.sgn_beU n k h0 h1 hk1 hk)
  have HS : Hid (Mt.intL n = Mt.beU (n % 18446744073709551616).toNat (Mt.isz n)) := Lib.hid rfl
  generalize (n % 18446744073709551616).toNat = N at *
  generalize Mt.isz n = z at *
  generalize Mt.intL n = L at *
  clear hN
  go_enter Try.func51, Try.ntmps51
  go_wp2_with fail
  go_loopw [3] (fun i wr => ∃ k : Nat, 1 ≤ k ∧ k ≤ z ∧ i = .int .i64 k ∧ Hid (Below w.heap.size w wr)) (fun i _ => 8 - (intOf i).toNat)
  case atStart => exact ⟨1, by omega, by omega, rfl, Below.refl _ _⟩
  case round =>
    obtain ⟨k, hk1, hkz, rfl, HB⟩ := hrel
    have hk8 : k ≤ 8 := by omega
    by_cases hk8' : k = 8
    · subst hk8'
      have hz8 : z = 8 := by omega
      go_wp2_with fail
      refine (HP.out 8 _ (by omega)).mono ?_
      rintro e w' ⟨rfl, hb⟩
      have HB2 := Lib.hid (HB.out.trans (hb.mono HB.out.size))
      clear hb
      go_wp2_with fail
      go_ret
      exact ⟨Mt.ret_str (by rw [HS.out, Mt.str_be, hz8]), HB2.out⟩
    · have hlt8 : k < 8 := by omega
      have hsz : (strOfNums (Mt.be N k)).size = k := by rw [strOfNums_size, Mt.be_length]
      have HSG := Lib.hid (fun W => signed_any (strOfNums (Mt.be N k)) W (by rw [hsz]; exact hk1) (by rw [hsz]; exact hk8))
      have hdat : (strOfNums (Mt.be N k)).data.toList = Mt.beU N k := by rw [Mt.str_be]; rfl
      rw [hdat] at HSG
      by_cases hk : k = z
      · subst hk
        have ht : Mt.sgn (Mt.beU N k) = n := (HF.out k hk1 hkz).2 rfl
        rw [ht] at HSG
        clear ht
        go_wp2_with fail
        refine (HP.out k _ hk8).mono ?_
        rintro e w' ⟨rfl, hb⟩
        have HB2 := Lib.hid (HB.out.trans (hb.mono HB.out.size))
        clear hb
        go_wp2_with fail
        refine (HSG.out _).mono ?_
        rintro e w2 ⟨rfl, rfl⟩
        go_wp2_with fail
        go_ret
        exact ⟨Mt.ret_str (by rw [HS.out, Mt.str_be]), HB2.out⟩
      · have ht : (Mt.sgn (Mt.beU N k) == n) = false := by simpa using fun e => hk ((HF.out k hk1 hkz).1 e)
        generalize Mt.sgn (Mt.beU N k) = sv at *
        go_wp2_with fail
        refine (HP.out k _ hk8).mono ?_
        rintro e w' ⟨rfl, hb⟩
        have HB2 := Lib.hid (HB.out.trans (hb.mono HB.out.size))
        clear hb
        go_wp2_with fail
        refine (HSG.out _).mono ?_
        rintro e w2 ⟨rfl, rfl⟩
        go_wp2_with fail
        go_roundw
        case rel => exact ⟨k + 1, by omega, by omega, by go_num, HB2⟩
        case measure => simp [intOf]; omega

/-- What Number answers. -/
def numV (l : List UInt8) : Value := .tuple #[.int .i64 (Mt.numL l).1, .bool (Mt.numL l).2]

set_option maxRecDepth 100000 in
theorem rnumber_any (s : ByteArray) (w : World) (hs : s.size ≤ 140737488351232) : Calls Try.prog 45 #[.string s] w fun e w' => e = .returned (numV s.data.toList) ∧ Below w.heap.size w w' := by
  have hl : s.data.toList.length = s.size := rfl
  by_cases hb : 1 ≤ s.size ∧ s.size ≤ 8
  · obtain ⟨h1, h8⟩ := hb
    have hsg := Mt.sgn_range s.data.toList (by omega) (by omega)
    have HSG := Lib.hid (signed_any s w h1 h8)
    have HI := Lib.hid (rint_any (Mt.sgn s.data.toList) w hsg.1 hsg.2)
    have d1 : decide (s.size < 1) = false := decide_eq_false (by omega)
    have d2 : decide (8 < s.size) = false := decide_eq_false (by omega)
    have hi1 : (1 : Int) ≤ s.size := by omega
    have hi2 : (s.size : Int) ≤ 8 := by omega
    by_cases he : Mt.intL (Mt.sgn s.data.toList) = s.data.toList
    · have hv : numV s.data.toList = .tuple #[.int .i64 (Mt.sgn s.data.toList), .bool true] := by unfold numV Mt.numL; rw [if_pos ⟨by omega, by omega, he⟩]
      have hst : Mt.str (Mt.intL (Mt.sgn s.data.toList)) = s := by rw [he]; rfl
      rw [hst] at HI
      rw [hv]
      generalize Mt.sgn s.data.toList = S at *
      clear hv he hst hl
      go_enter Try.func45, Try.ntmps45
      go_wp2_with fail
      refine (HSG.out).mono ?_
      rintro e w1 ⟨rfl, rfl⟩
      go_wp2_with fail
      refine (HI.out).mono ?_
      rintro e w1 ⟨rfl, hb⟩
      have HB := Lib.hid hb
      clear hb
      go_wp2_with fail
      go_ret2
      exact ⟨rfl, HB.out⟩
    · have hv : numV s.data.toList = .tuple #[.int .i64 0, .bool false] := by unfold numV Mt.numL; rw [if_neg (fun h => he h.2.2)]
      have hst : ¬ (Mt.str (Mt.intL (Mt.sgn s.data.toList)) = s) := fun h => he (congrArg (fun t : ByteArray => t.data.toList) h)
      have hne : ((Mt.str (Mt.intL (Mt.sgn s.data.toList))).toList == s.toList) = false := by
        rw [ByteArray.toList_eq, ByteArray.toList_eq]
        simp only [beq_eq_false_iff_ne]
        exact fun h => he h
      rw [hv]
      generalize Mt.str (Mt.intL (Mt.sgn s.data.toList)) = T at *
      generalize Mt.sgn s.data.toList = S at *
      clear hv he hst hl
      go_enter Try.func45, Try.ntmps45
      go_wp2_with fail
      refine (HSG.out).mono ?_
      rintro e w1 ⟨rfl, rfl⟩
      go_wp2_with fail
      refine (HI.out).mono ?_
      rintro e w1 ⟨rfl, hb⟩
      have HB := Lib.hid hb
      clear hb
      go_wp2_with fail
      go_ret2
      exact ⟨rfl, HB.out⟩
  · have hv : numV s.data.toList = .tuple #[.int .i64 0, .bool false] := by unfold numV Mt.numL; rw [if_neg (fun h => hb ⟨by omega, by omega⟩)]
    rw [hv]
    by_cases h1 : s.size < 1
    · have d1 : decide (s.size < 1) = true := decide_eq_true (by omega)
      go_enter Try.func45, Try.ntmps45
      go_wp2_with fail
      go_ret2
      exact ⟨rfl, Below.refl _ _⟩
    · have d1 : decide (s.size < 1) = false := decide_eq_false (by omega)
      have h8 : 8 < s.size := by omega
      have d2 : decide (8 < s.size) = true := by simpa using h8
      go_enter Try.func45, Try.ntmps45
      go_wp2_with fail
      go_ret2
      exact ⟨rfl, Below.refl _ _⟩

set_option maxRecDepth 100000 in
theorem Mt.sgn_shift (l : List UInt8) (k : Nat) (hk : l.length = k) (h1 : 1 ≤ k) (h8 : k ≤ 8) : wrap64 (IntKind.u64.wrap ((Mt.gn l 0 k : Int) * 2 ^ (64 - 8 * k))) / 2 ^ (64 - 8 * k) = Mt.sgn l := by
  obtain ⟨m, rfl⟩ : ∃ m, k = m + 1 := ⟨k - 1, by omega⟩
  have hgn := Mt.gn_head l m (by omega)
  have hlt := Mt.gn_lt (l.drop 1) 0 m
  have hc := (l.getD 0 0).toNat_lt
  unfold Mt.sgn
  rw [hk, hgn, Mt.u64_wrap]
  generalize (l.getD 0 0).toNat = c at *
  generalize Mt.gn (l.drop 1) 0 m = g at *
  clear hgn hk
  obtain rfl | rfl | rfl | rfl | rfl | rfl | rfl | rfl : m = 0 ∨ m = 1 ∨ m = 2 ∨ m = 3 ∨ m = 4 ∨ m = 5 ∨ m = 6 ∨ m = 7 := by omega
  all_goals
    simp only [Nat.reduceAdd, Nat.reduceMul, Nat.reduceSub, Nat.reducePow, Int.reducePow, wrap64] at hlt ⊢
    split <;> omega

set_option maxRecDepth 100000 in
theorem number_any (s : ByteArray) (w : World) (hs : s.size ≤ 140737488351232) : Calls Try.prog 42 #[.string s] w fun e w' => e = .returned (numV s.data.toList) ∧ Below w.heap.size w w' := by
  have hl : s.data.toList.length = s.size := rfl
  by_cases hb : 1 ≤ s.size ∧ s.size ≤ 8
  · obtain ⟨h1, h8⟩ := hb
    obtain ⟨k, hk⟩ : ∃ k, s.size = k := ⟨_, rfl⟩
    have HG := Lib.hid (get_yes s 0 k w (by omega) (by omega) (by omega) (by omega))
    have hsh := Mt.sgn_shift s.data.toList k (by rw [hl]; exact hk) (by omega) (by omega)
    have hsg := Mt.sgn_range s.data.toList (by omega) (by omega)
    have HI := Lib.hid (int_any (Mt.sgn s.data.toList) w hsg.1 hsg.2)
    have hk1 : 1 ≤ k := by omega
    have hk8 : k ≤ 8 := by omega
    by_cases he : Mt.intL (Mt.sgn s.data.toList) = s.data.toList
    · have hv : numV s.data.toList = .tuple #[.int .i64 (Mt.sgn s.data.toList), .bool true] := by unfold numV Mt.numL; rw [if_pos ⟨by omega, by omega, he⟩]
      have hst : Mt.str (Mt.intL (Mt.sgn s.data.toList)) = s := by rw [he]; rfl
      rw [hst] at HI
      rw [hv]
      generalize Mt.sgn s.data.toList = S at *
      generalize Mt.gn s.data.toList 0 k = g at *
      clear hv he hst hl
      go_enter Try.func42, Try.ntmps42
      go_wp2_with fail
      refine (HG.out).mono ?_
      rintro e w1 ⟨rfl, rfl⟩
      go_wp2_with fail
      refine (HI.out).mono ?_
      rintro e w1 ⟨rfl, hb⟩
      have HB := Lib.hid hb
      clear hb
      go_wp2_with fail
      go_ret2
      exact ⟨rfl, HB.out⟩
    · have hv : numV s.data.toList = .tuple #[.int .i64 0, .bool false] := by unfold numV Mt.numL; rw [if_neg (fun h => he h.2.2)]
      have hne : ((Mt.str (Mt.intL (Mt.sgn s.data.toList))).toList == s.toList) = false := by
        rw [ByteArray.toList_eq, ByteArray.toList_eq]
        simp only [beq_eq_false_iff_ne]
        exact fun h => he h
      rw [hv]
      generalize Mt.str (Mt.intL (Mt.sgn s.data.toList)) = T at *
      generalize Mt.sgn s.data.toList = S at *
      generalize Mt.gn s.data.toList 0 k = g at *
      clear hv he hl
      go_enter Try.func42, Try.ntmps42
      go_wp2_with fail
      refine (HG.out).mono ?_
      rintro e w1 ⟨rfl, rfl⟩
      go_wp2_with fail
      refine (HI.out).mono ?_
      rintro e w1 ⟨rfl, hb⟩
      have HB := Lib.hid hb
      clear hb
      go_wp2_with fail
      go_ret2
      exact ⟨rfl, HB.out⟩
  · have hv : numV s.data.toList = .tuple #[.int .i64 0, .bool false] := by unfold numV Mt.numL; rw [if_neg (fun h => hb ⟨by omega, by omega⟩)]
    have HG := Lib.hid (get_size s 0 s.size w (by omega))
    rw [hv]
    clear hv hb hl
    go_enter Try.func42, Try.ntmps42
    go_wp2_with fail
    refine (HG.out).mono ?_
    rintro e w1 ⟨rfl, rfl⟩
    go_wp2_with fail
    go_ret2
    exact ⟨rfl, Below.refl _ _⟩

end Go.Proofs.Ytcijjblcoelabaa
