/-
  What the calls pass.Salt, pass.Make and pass.Check come to.
-/
import Derived.Test.YtpdionmecflibaaDoorPassMath
import Derived.Test.YtpdionmecflibaaDoorUnhex
import Derived.Test.YtpdionmecflibaaDoorGet
import Derived.Test.YtpdionmecflibaaDoorAwake3
namespace Go.Proofs.YtpdionmecflibaaDoor
open Go.RowKit

theorem salt_no (s : ByteArray) (w : World) (h : Mt.stored s = false) :
    Calls Tryd.prog 33 #[.string s] w fun e w' => e = .returned (.tuple #[.int .u64 0, .bool false]) ∧ w = w' := by
  have H := Lib.hid (fun u => stored_any s u)
  rw [h] at H
  clear h
  go_enter Tryd.func33, Tryd.ntmps33
  go_wp2_with fail
  refine (H.out _).mono ?_
  rintro e w2 ⟨rfl, rfl⟩
  go_wp2_with fail
  go_ret2
  exact ⟨rfl, rfl⟩

theorem salt_yes (s : ByteArray) (w : World) (h : Mt.stored s = true) :
    Calls Tryd.prog 33 #[.string s] w fun e w' => e = .returned (.tuple #[.int .u64 (Mt.saltN s), .bool true]) ∧ Below w.heap.size w w' := by
  have H := Lib.hid (fun u => stored_any s u)
  have hsz : s.size = 88 := by
    have h2 := h
    unfold Mt.stored at h2
    simp only [Bool.and_eq_true, decide_eq_true_eq] at h2
    exact h2.1.1
  have h24 : (24 : Int) ≤ (s.size : Int) := by omega
  obtain ⟨o, ho, hu, hn⟩ := Mt.stored_salt s h
  obtain ⟨t, ht⟩ : ∃ t, s.extract 8 24 = t := ⟨_, rfl⟩
  have hts : t.size = 16 := by rw [← ht, ByteArray.size_extract]; omega
  rw [ht] at hu
  have HU := Lib.hid (fun u => unhex_any t u (by omega))
  rw [hu] at HU
  have HO : (Mt.str o).size = 8 := by rw [Mt.str_size, ho]
  obtain ⟨k, hk⟩ : ∃ k, Mt.str o = k := ⟨_, rfl⟩
  have hko : Mt.gn k.data.toList 0 8 = Mt.saltN s := by rw [← hk, Mt.str_data, hn]
  have HG := Lib.hid (fun u => get_yes k 0 8 u (by rw [hk] at HO; omega) (by decide) (by decide) (by rw [hk] at HO; omega))
  rw [hko] at HG
  dsimp only at HU
  rw [hk] at HU
  rw [h] at H
  clear hko hk HO hu hts hn ho h
  go_enter Tryd.func33, Tryd.ntmps33
  go_wp2_with fail
  refine (H.out _).mono ?_
  rintro e w2 ⟨rfl, rfl⟩
  go_wp2_with fail
  refine (HU.out _).mono ?_
  rintro e w3 ⟨rfl, hb⟩
  have HB := Lib.hid hb
  clear hb
  go_wp2_with fail
  refine (HG.out _).mono ?_
  rintro e w4 ⟨rfl, rfl⟩
  go_wp2_with fail
  go_ret2
  exact ⟨rfl, HB.out⟩

theorem make_empty (s : ByteArray) (n : Int) (w : World) (h : s.size = 0) :
    Calls Tryd.prog 16 #[.string s, .int .u64 n] w fun e w' => e = .returned (.tuple #[.string ByteArray.empty, .int .i64 2]) ∧ w = w' := by
  obtain rfl : s = ByteArray.empty := by
    apply Mt.bytes_ext
    exact List.length_eq_zero_iff.1 h
  clear h
  go_enter Tryd.func16, Tryd.ntmps16
  go_wp2_with fail
  go_ret2
  exact ⟨rfl, rfl⟩

theorem not_empty {s : ByteArray} (h : 0 < s.size) : s.toList.isEmpty = false := by
  rw [ByteArray.toList_eq, List.isEmpty_eq_false_iff]
  intro h2
  have : s.data.toList.length = s.size := rfl
  rw [h2] at this
  simp at this; omega

theorem make_long (s : ByteArray) (n : Int) (w : World) (h : 256 < s.size) :
    Calls Tryd.prog 16 #[.string s, .int .u64 n] w fun e w' => e = .returned (.tuple #[.string ByteArray.empty, .int .i64 5]) ∧ w = w' := by
  have hne := not_empty (s := s) (by omega)
  have hl : (256 : Int) < (s.size : Int) := by omega
  clear h
  go_enter Tryd.func16, Tryd.ntmps16
  go_wp2_with fail
  go_ret2
  exact ⟨rfl, rfl⟩

theorem make_yes (s : ByteArray) (n : Nat) (w : World) (hg : Laid w) (h0 : 0 < s.size) (h1 : s.size ≤ 256) :
    Calls Tryd.prog 16 #[.string s, .int .u64 n] w fun e w' => e = .returned (.tuple #[.string (Mt.mk n s), .int .i64 0]) ∧ Below w.heap.size w w' := by
  have hne := not_empty h0
  have hl : decide (256 < s.size) = false := by simp; omega
  have HP := Lib.hid (fun u => put_yes n 8 u (by decide) (by decide))
  obtain ⟨K, hK⟩ : ∃ K, strOfNums (Mt.be n 8) = K := ⟨_, rfl⟩
  have hK8 : K.size = 8 := by rw [← hK]; exact Mt.key_length n
  have HH := Lib.hid (fun u => hex_any K u (by omega))
  have HS := Lib.hid (fun B u hB hgu => all_two K s B u hB hgu (by omega) (by omega))
  obtain ⟨D, hD⟩ : ∃ D, Mt.str (Mt.sha (K.data.toList ++ s.data.toList)) = D := ⟨_, rfl⟩
  have hDs : D.size = 32 := by rw [← hD]; exact Mt.sha_size _
  have HX := Lib.hid (fun u => hex_any D u (by omega))
  have HM : Hid (Mt.mk n s = (Mt.front ++ strOfNums (Mt.hex K.data.toList)) ++ strOfNums (Mt.hex D.data.toList)) := Lib.hid (by rw [← hD, ← hK]; rfl)
  rw [hK] at HP
  rw [hD] at HS
  obtain ⟨A, hA⟩ : ∃ A, strOfNums (Mt.hex K.data.toList) = A := ⟨_, rfl⟩
  obtain ⟨C, hC⟩ : ∃ C, strOfNums (Mt.hex D.data.toList) = C := ⟨_, rfl⟩
  rw [hA, hC] at HM
  have hAz : A.size = 16 := by rw [← hA]; show (strOfNums (Mt.hex K.data.toList)).data.toList.length = 16; rw [Mt.hexs_length]; show 2 * K.size = 16; omega
  have hCz : C.size = 64 := by rw [← hC]; show (strOfNums (Mt.hex D.data.toList)).data.toList.length = 64; rw [Mt.hexs_length]; show 2 * D.size = 64; omega
  have hadd1 := fun wx => run_string_add_sum (w := wx) (P := Tryd.prog) ⟨#[123, 83, 65, 76, 84, 69, 68, 125]⟩ A (by rw [hAz]; decide)
  have hadd2 := fun wx => run_string_add_sum (w := wx) (P := Tryd.prog) (⟨#[123, 83, 65, 76, 84, 69, 68, 125]⟩ ++ A) C (by rw [hCz, ByteArray.size_append, hAz]; decide)
  rw [hA] at HH
  rw [hC] at HX
  have HG := Lib.hid hg
  clear hK hK8 hD hDs hA hC hg hAz hCz
  go_enter Tryd.func16, Tryd.ntmps16
  go_wp2_with fail
  refine (HP.out _).mono ?_
  rintro e w2 ⟨rfl, hb⟩
  have HB := Lib.hid hb
  clear hb
  go_wp2_with fail
  refine (HH.out _).mono ?_
  rintro e w3 ⟨rfl, hb⟩
  have HB2 := Lib.hid (HB.out.trans (hb.mono HB.out.size))
  clear hb HB
  go_wp2_with fail
  refine (HS.out _ _ rfl (HG.out.below HB2.out (Nat.le_refl _))).mono ?_
  rintro e w4 ⟨rfl, hb⟩
  have HB3 := Lib.hid (HB2.out.trans (hb.mono HB2.out.size))
  clear hb HB2
  go_wp2_with fail
  refine (HX.out _).mono ?_
  rintro e w5 ⟨rfl, hb⟩
  have HB4 := Lib.hid (HB3.out.trans (hb.mono HB3.out.size))
  clear hb HB3
  go_wp2_with fail
  go_ret2
  exact ⟨by rw [HM.out]; rfl, HB4.out⟩

/-- Whether a text is what is kept of a password. -/
def Mt.check (s p : ByteArray) : Bool := Mt.stored s && (decide (0 < p.size ∧ p.size ≤ 256) && decide (Mt.mk (Mt.saltN s) p = s))

theorem check_any (s p : ByteArray) (w : World) (hg : Laid w) :
    Calls Tryd.prog 18 #[.string s, .string p] w fun e w' => e = .returned (.bool (Mt.check s p)) ∧ Below w.heap.size w w' := by
  have HR := Lib.hid (show Mt.check s p = (Mt.stored s && (decide (0 < p.size ∧ p.size ≤ 256) && decide (Mt.mk (Mt.saltN s) p = s))) from rfl)
  cases hs : Mt.stored s with
  | false =>
    rw [hs] at HR
    have H := Lib.hid (fun u => salt_no s u hs)
    clear hs
    go_enter Tryd.func18, Tryd.ntmps18
    go_wp2_with fail
    refine (H.out _).mono ?_
    rintro e w2 ⟨rfl, rfl⟩
    go_wp2_with fail
    go_ret
    exact ⟨ret_bool (by rw [HR.out]; rfl), Below.refl _ _⟩
  | true =>
    rw [hs] at HR
    have H := Lib.hid (fun u => salt_yes s u hs)
    obtain ⟨n, hn⟩ : ∃ n, Mt.saltN s = n := ⟨_, rfl⟩
    rw [hn] at HR H
    have HG := Lib.hid hg
    clear hs hn hg
    by_cases h0 : p.size = 0
    · have HD : decide (0 < p.size ∧ p.size ≤ 256) = false := decide_eq_false (by omega)
      rw [HD] at HR
      have HM := Lib.hid (fun u => make_empty p n u h0)
      clear h0 HD
      go_enter Tryd.func18, Tryd.ntmps18
      go_wp2_with fail
      refine (H.out _).mono ?_
      rintro e w2 ⟨rfl, hb⟩
      have HB := Lib.hid hb
      clear hb
      go_wp2_with fail
      refine (HM.out _).mono ?_
      rintro e w3 ⟨rfl, rfl⟩
      go_wp2_with fail
      go_ret
      exact ⟨ret_bool (by rw [HR.out]; rfl), HB.out⟩
    · by_cases h1 : p.size ≤ 256
      · have HD : decide (0 < p.size ∧ p.size ≤ 256) = true := decide_eq_true (by omega)
        rw [HD] at HR
        have HM := Lib.hid (fun u hgu => make_yes p n u hgu (by omega) h1)
        obtain ⟨m, hm⟩ : ∃ m, Mt.mk n p = m := ⟨_, rfl⟩
        rw [hm] at HM HR
        clear h0 h1 HD hm
        go_enter Tryd.func18, Tryd.ntmps18
        go_wp2_with fail
        refine (H.out _).mono ?_
        rintro e w2 ⟨rfl, hb⟩
        have HB := Lib.hid hb
        clear hb
        go_wp2_with fail
        refine (HM.out _ (HG.out.below HB.out (Nat.le_refl _))).mono ?_
        rintro e w3 ⟨rfl, hb⟩
        have HB2 := Lib.hid (HB.out.trans (hb.mono HB.out.size))
        clear hb HB
        go_wp2_with fail
        go_ret
        exact ⟨ret_bool (by rw [HR.out]; exact beq_bytes _ _), HB2.out⟩
      · have HD : decide (0 < p.size ∧ p.size ≤ 256) = false := decide_eq_false (by omega)
        rw [HD] at HR
        have HM := Lib.hid (fun u => make_long p n u (by omega))
        clear h0 h1 HD
        go_enter Tryd.func18, Tryd.ntmps18
        go_wp2_with fail
        refine (H.out _).mono ?_
        rintro e w2 ⟨rfl, hb⟩
        have HB := Lib.hid hb
        clear hb
        go_wp2_with fail
        refine (HM.out _).mono ?_
        rintro e w3 ⟨rfl, rfl⟩
        go_wp2_with fail
        go_ret
        exact ⟨ret_bool (by rw [HR.out]; rfl), HB.out⟩

end Go.Proofs.YtpdionmecflibaaDoor

/-
  What the call castellanlaw04.awake comes to.
-/
namespace Go.Proofs.YtpdionmecflibaaDoor
open Go.RowKit

theorem Mt.mk_first : (Mt.mk 1 ⟨#[97]⟩).extract 0 24 = ⟨#[123, 83, 65, 76, 84, 69, 68, 125, 48, 48, 48, 48, 48, 48, 48, 48, 48, 48, 48, 48, 48, 48, 48, 49]⟩ := by
  apply Mt.bytes_ext
  rw [Mt.mk_eq, Mt.ext_list, Mt.app_list, Mt.str_data, Mt.hx_append, ← List.append_assoc, List.drop_zero]
  rw [List.take_left' (by rw [List.length_append, Mt.hx_length, Mt.key_length, Mt.front_list])]
  decide
theorem Mt.mk_check (n : Nat) (p : ByteArray) (hn : n < 18446744073709551616) (h0 : 0 < p.size) (h1 : p.size ≤ 256) : Mt.check (Mt.mk n p) p = true := by
  unfold Mt.check
  rw [Mt.mk_stored, Mt.mk_salt n p hn]
  simp [h0, h1]

theorem awake4_any (w : World) (hg : Laid w) : Calls Tryd.prog 15 #[] w fun e w' => e = .returned (.bool true) ∧ Below w.heap.size w w' := by
  have HF := Lib.hid Mt.mk_first
  have HC := Lib.hid (fun u hgu => check_any (Mt.mk 1 ⟨#[97]⟩) ⟨#[97]⟩ u hgu)
  have HM := Lib.hid (fun u hgu => make_yes ⟨#[97]⟩ 1 u hgu (by decide) (by decide))
  rw [Mt.mk_check 1 ⟨#[97]⟩ (by decide) (by decide) (by decide)] at HC
  have hz := Mt.mk_size 1 ⟨#[97]⟩
  obtain ⟨m, hm⟩ : ∃ m, Mt.mk 1 ⟨#[97]⟩ = m := ⟨_, rfl⟩
  rw [hm] at HC HM HF hz
  have hz1 : (m.size : Int) = 88 := by omega
  have hz2 : (24 : Int) ≤ (m.size : Int) := by omega
  have hx := HF.out
  have HG := Lib.hid hg
  clear hg hm
  go_enter Tryd.func15, Tryd.ntmps15
  go_wp2_with fail
  refine (HM.out _ HG.out).mono ?_
  rintro e w2 ⟨rfl, hb⟩
  have HB := Lib.hid hb
  clear hb
  go_wp2_with fail
  refine (HC.out _ (HG.out.below HB.out (Nat.le_refl _))).mono ?_
  rintro e w3 ⟨rfl, hb⟩
  have HB2 := Lib.hid (HB.out.trans (hb.mono HB.out.size))
  clear hb HB
  go_wp2_with fail
  go_ret
  exact ⟨rfl, HB2.out⟩

end Go.Proofs.YtpdionmecflibaaDoor
