/-
  What the document's Make and Check come to.
-/
import Derived.Test.YtpdionmecflibaaDoorRPass
import Derived.Test.YtpdionmecflibaaDoorRAll
namespace Go.Proofs.YtpdionmecflibaaDoor
open Go.RowKit

/-- A password as it is kept, or that it can't be. -/
def Mt.make (p : ByteArray) (n : Nat) : ByteArray × Int := if p.size = 0 then (ByteArray.empty, 2) else if 256 < p.size then (ByteArray.empty, 5) else (Mt.mk n p, 0)
theorem Mt.make_empty {p : ByteArray} (n : Nat) (h : p.size = 0) : Mt.make p n = (ByteArray.empty, 2) := by unfold Mt.make; rw [if_pos h]
theorem Mt.make_long {p : ByteArray} (n : Nat) (h : 256 < p.size) : Mt.make p n = (ByteArray.empty, 5) := by unfold Mt.make; rw [if_neg (by omega), if_pos h]
theorem Mt.make_yes {p : ByteArray} (n : Nat) (h0 : 0 < p.size) (h1 : p.size ≤ 256) : Mt.make p n = (Mt.mk n p, 0) := by unfold Mt.make; rw [if_neg (by omega), if_neg (by omega)]
theorem Mt.saltN_lt (s : ByteArray) : Mt.saltN s < 18446744073709551616 := by
  have := Mt.gn_lt (Mt.unhex (s.extract 8 88).data.toList).1 0 8
  exact this

theorem make_any (p : ByteArray) (n : Nat) (w : World) (hg : Laid w) :
    Calls Tryd.prog 16 #[.string p, .int .u64 n] w fun e w' => e = .returned (.tuple #[.string (Mt.make p n).1, .int .i64 (Mt.make p n).2]) ∧ Below w.heap.size w w' := by
  by_cases h0 : p.size = 0
  · rw [Mt.make_empty n h0]
    exact (make_empty p n w h0).mono fun e w' h => ⟨h.1, h.2 ▸ Below.refl _ _⟩
  · by_cases h1 : p.size ≤ 256
    · rw [Mt.make_yes n (by omega) h1]; exact make_yes p n w hg (by omega) h1
    · rw [Mt.make_long n (by omega)]
      exact (make_long p n w (by omega)).mono fun e w' h => ⟨h.1, h.2 ▸ Below.refl _ _⟩

theorem rmake_any (p : ByteArray) (n : Nat) (hn : n < 18446744073709551616) (w : World) :
    Calls Tryd.prog 17 #[.string p, .int .u64 n] w fun e w' => e = .returned (.tuple #[.string (Mt.make p n).1, .int .i64 (Mt.make p n).2]) ∧ Below w.heap.size w w' := by
  by_cases h0 : p.size = 0
  · rw [Mt.make_empty n h0]
    have h0' : ((p.size : Int) == 0) = true := by rw [beq_iff_eq]; omega
    clear h0
    go_enter Tryd.func17, Tryd.ntmps17
    go_wp2_with fail
    go_ret2
    exact ⟨rfl, Below.refl _ _⟩
  · have h0' : ((p.size : Int) == 0) = false := by rw [beq_eq_false_iff_ne]; omega
    by_cases h1 : p.size ≤ 256
    · rw [Mt.make_yes n (by omega) h1]
      have h2 : (p.size : Int) ≤ 256 := by omega
      have HP := Lib.hid (fun u => rput_yes n 8 u hn (by decide))
      obtain ⟨Y, hK⟩ : ∃ Y, strOfNums (Mt.be n 8) = Y := ⟨_, rfl⟩
      have hK8 : Y.size = 8 := by rw [← hK]; exact Mt.key_length n
      have HH := Lib.hid (fun u => rhex_any Y u (by omega))
      have hYs : (Y ++ p).size = 8 + p.size := by rw [ByteArray.size_append, hK8]
      have HS := Lib.hid (fun u => rall_any (Y ++ p) u (by omega))
      rw [Mt.app_list] at HS
      obtain ⟨D, hD⟩ : ∃ D, Mt.str (Mt.sha (Y.data.toList ++ p.data.toList)) = D := ⟨_, rfl⟩
      have hDs : D.size = 32 := by rw [← hD]; exact Mt.sha_size _
      have HX := Lib.hid (fun u => rhex_any D u (by omega))
      have HM : Hid (Mt.mk n p = (Mt.front ++ strOfNums (Mt.hex Y.data.toList)) ++ strOfNums (Mt.hex D.data.toList)) := Lib.hid (by rw [← hD, ← hK]; rfl)
      rw [hK] at HP
      rw [hD] at HS
      obtain ⟨A, hA⟩ : ∃ A, strOfNums (Mt.hex Y.data.toList) = A := ⟨_, rfl⟩
      obtain ⟨C, hC⟩ : ∃ C, strOfNums (Mt.hex D.data.toList) = C := ⟨_, rfl⟩
      rw [hA, hC] at HM
      have hAz : A.size = 16 := by rw [← hA]; show (strOfNums (Mt.hex Y.data.toList)).data.toList.length = 16; rw [Mt.hexs_length]; show 2 * Y.size = 16; omega
      have hCz : C.size = 64 := by rw [← hC]; show (strOfNums (Mt.hex D.data.toList)).data.toList.length = 64; rw [Mt.hexs_length]; show 2 * D.size = 64; omega
      have hadd1 := fun wx => run_string_add_sum (w := wx) (P := Tryd.prog) ⟨#[123, 83, 65, 76, 84, 69, 68, 125]⟩ A (by rw [hAz]; decide)
      have hadd2 := fun wx => run_string_add_sum (w := wx) (P := Tryd.prog) (⟨#[123, 83, 65, 76, 84, 69, 68, 125]⟩ ++ A) C (by rw [hCz, ByteArray.size_append, hAz]; decide)
      have hadd3 := fun wx => run_string_add_sum (w := wx) (P := Tryd.prog) Y p (by omega)
      rw [hA] at HH
      rw [hC] at HX
      clear hK hK8 hD hDs hA hC hAz hCz hYs h0 h1
      go_enter Tryd.func17, Tryd.ntmps17
      go_wp2_with fail
      refine (HP.out _).mono ?_
      rintro e w2 ⟨rfl, hb⟩
      have HB := Lib.hid hb
      clear hb
      go_wp2_with fail
      refine (HH.out _).mono ?_
      rintro e w3 ⟨rfl, hb⟩
      have HB2 := Lib.hid (HB.out.trans (hb.mono HB.out.size))
      clear hb HB
      go_wp2_with fail
      refine (HS.out _).mono ?_
      rintro e w4 ⟨rfl, hb⟩
      have HB3 := Lib.hid (HB2.out.trans (hb.mono HB2.out.size))
      clear hb HB2
      go_wp2_with fail
      refine (HX.out _).mono ?_
      rintro e w5 ⟨rfl, hb⟩
      have HB4 := Lib.hid (HB3.out.trans (hb.mono HB3.out.size))
      clear hb HB3
      go_wp2_with fail
      go_ret2
      exact ⟨by rw [HM.out]; rfl, HB4.out⟩
    · rw [Mt.make_long n (by omega)]
      have h2 : (256 : Int) < (p.size : Int) := by omega
      clear h0 h1
      go_enter Tryd.func17, Tryd.ntmps17
      go_wp2_with fail
      go_ret2
      exact ⟨rfl, Below.refl _ _⟩

theorem rsalt_no (s : ByteArray) (w : World) (h : Mt.stored s = false) :
    Calls Tryd.prog 34 #[.string s] w fun e w' => e = .returned (.tuple #[.int .u64 0, .bool false]) ∧ Below w.heap.size w w' := by
  by_cases h8 : s.size = 88
  · have := rsalt_any s w h8
    rw [h] at this
    exact this
  · exact rsalt_size s w h8
theorem rsalt_yes (s : ByteArray) (w : World) (h : Mt.stored s = true) :
    Calls Tryd.prog 34 #[.string s] w fun e w' => e = .returned (.tuple #[.int .u64 (Mt.saltN s), .bool true]) ∧ Below w.heap.size w w' := by
  have h8 : s.size = 88 := by
    have h2 := h
    unfold Mt.stored at h2
    simp only [Bool.and_eq_true, decide_eq_true_eq] at h2
    exact h2.1.1
  have := rsalt_any s w h8
  rw [h] at this
  exact this

theorem rcheck_any (s p : ByteArray) (w : World) :
    Calls Tryd.prog 19 #[.string s, .string p] w fun e w' => e = .returned (.bool (Mt.check s p)) ∧ Below w.heap.size w w' := by
  have HR := Lib.hid (show Mt.check s p = (Mt.stored s && (decide (0 < p.size ∧ p.size ≤ 256) && decide (Mt.mk (Mt.saltN s) p = s))) from rfl)
  cases hs : Mt.stored s with
  | false =>
    rw [hs] at HR
    have H := Lib.hid (fun u => rsalt_no s u hs)
    have HM := Lib.hid (fun u => rmake_any p 0 (by decide) u)
    generalize Mt.make p 0 = r at HM
    obtain ⟨r1, r2⟩ := r
    dsimp only at HM
    clear hs
    go_enter Tryd.func19, Tryd.ntmps19
    go_wp2_with fail
    refine (H.out _).mono ?_
    rintro e w2 ⟨rfl, hb⟩
    have HB := Lib.hid hb
    clear hb
    go_wp2_with fail
    refine (HM.out _).mono ?_
    rintro e w3 ⟨rfl, hb⟩
    have HB2 := Lib.hid (HB.out.trans (hb.mono HB.out.size))
    clear hb HB
    go_wp2_with fail
    go_ret
    exact ⟨ret_bool (by rw [HR.out]; rfl), HB2.out⟩
  | true =>
    rw [hs] at HR
    have H := Lib.hid (fun u => rsalt_yes s u hs)
    have hlt := Mt.saltN_lt s
    obtain ⟨n, hn⟩ : ∃ n, Mt.saltN s = n := ⟨_, rfl⟩
    rw [hn] at HR H hlt
    have HM := Lib.hid (fun u => rmake_any p n hlt u)
    have HMV : Hid ((0 < p.size ∧ p.size ≤ 256 ∧ Mt.make p n = (Mt.mk n p, 0)) ∨ (¬ (0 < p.size ∧ p.size ≤ 256) ∧ ((Mt.make p n).2 == 0) = false)) := Lib.hid (by
      by_cases h0 : p.size = 0
      · exact .inr ⟨by omega, by rw [Mt.make_empty n h0]; rfl⟩
      · by_cases h1 : p.size ≤ 256
        · exact .inl ⟨by omega, h1, Mt.make_yes n (by omega) h1⟩
        · exact .inr ⟨by omega, by rw [Mt.make_long n (by omega)]; rfl⟩)
    generalize Mt.make p n = r at HM HMV
    obtain ⟨r1, r2⟩ := r
    dsimp only at HM HMV
    clear hs hn hlt
    rcases HMV.out with ⟨h0, h1, h2⟩ | ⟨h0, h1⟩
    · have HD : decide (0 < p.size ∧ p.size ≤ 256) = true := decide_eq_true ⟨h0, h1⟩
      rw [HD] at HR
      obtain ⟨rfl, rfl⟩ := Prod.mk.inj h2
      obtain ⟨m, hm⟩ : ∃ m, Mt.mk n p = m := ⟨_, rfl⟩
      rw [hm] at HM HR
      clear h0 h1 h2 HD hm HMV
      go_enter Tryd.func19, Tryd.ntmps19
      go_wp2_with fail
      refine (H.out _).mono ?_
      rintro e w2 ⟨rfl, hb⟩
      have HB := Lib.hid hb
      clear hb
      go_wp2_with fail
      refine (HM.out _).mono ?_
      rintro e w3 ⟨rfl, hb⟩
      have HB2 := Lib.hid (HB.out.trans (hb.mono HB.out.size))
      clear hb HB
      go_wp2_with fail
      go_ret
      exact ⟨ret_bool (by rw [HR.out]; exact beq_bytes _ _), HB2.out⟩
    · have HD : decide (0 < p.size ∧ p.size ≤ 256) = false := decide_eq_false h0
      rw [HD] at HR
      clear h0 HD HMV
      go_enter Tryd.func19, Tryd.ntmps19
      go_wp2_with fail
      refine (H.out _).mono ?_
      rintro e w2 ⟨rfl, hb⟩
      have HB := Lib.hid hb
      clear hb
      go_wp2_with fail
      refine (HM.out _).mono ?_
      rintro e w3 ⟨rfl, hb⟩
      have HB2 := Lib.hid (HB.out.trans (hb.mono HB.out.size))
      clear hb HB
      go_wp2_with fail
      go_ret
      exact ⟨ret_bool (by rw [HR.out]; rfl), HB2.out⟩

end Go.Proofs.YtpdionmecflibaaDoor
