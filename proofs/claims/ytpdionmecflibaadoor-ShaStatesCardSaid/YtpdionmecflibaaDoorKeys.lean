/-
  What the document's wide, root, cube and primes come to.
-/
import Derived.Test.YtpdionmecflibaaDoorRot
import Derived.Test.YtpdionmecflibaaDoorPut
import Derived.Test.YtpdionmecflibaaDoorKeyMath
import Derived.Deep.Cut
namespace Go.Proofs.YtpdionmecflibaaDoor
open Go.RowKit

theorem ret_two {k : IntKind} {a b c d : Int} (h1 : a = c) (h2 : b = d) : Ending.returned (.tuple #[.int k a, .int k b]) = .returned (.tuple #[.int k c, .int k d]) := by rw [h1, h2]

theorem wN (x : Nat) : IntKind.u64.wrap (x : Int) = ((x % 18446744073709551616 : Nat) : Int) := by rw [IntKind.wrap_u64]; omega
theorem dN (x : Nat) : (x : Int).tdiv 4294967296 = ((x / 4294967296 : Nat) : Int) := by rw [Int.tdiv_eq_ediv_of_nonneg (by omega)]; omega
theorem mN (x : Nat) : (x : Int).tmod 4294967296 = ((x % 4294967296 : Nat) : Int) := by rw [Int.tmod_eq_emod_of_nonneg (by omega)]; omega
theorem pN (x y : Nat) : (x : Int) * (y : Int) = ((x * y : Nat) : Int) := by simp
theorem qN (x : Nat) : (x : Int) * 4294967296 = ((x * 4294967296 : Nat) : Int) := by simp
theorem aN (x y : Nat) : (x : Int) + (y : Int) = ((x + y : Nat) : Int) := by simp

set_option maxHeartbeats 800000 in
set_option maxRecDepth 100000 in
theorem wide_any (a b : Nat) (w : World) (ha : a < 18446744073709551616) (hb : b < 18446744073709551616) :
    Calls Tryd.prog 35 #[.int .u64 a, .int .u64 b] w fun e w' => e = .returned (.tuple #[.int .u64 (Mt.wHi a b), .int .u64 (Mt.wLo a b)]) ∧ w = w' := by
  have h1 : (a : Int) % 4294967296 = ((a % 4294967296 : Nat) : Int) := by omega
  have h2 : (a : Int) / 4294967296 = ((a / 4294967296 : Nat) : Int) := by omega
  have h3 : (b : Int) % 4294967296 = ((b % 4294967296 : Nat) : Int) := by omega
  have h4 : (b : Int) / 4294967296 = ((b / 4294967296 : Nat) : Int) := by omega
  have HHI := Lib.hid (show Mt.wHi a b = (a / 4294967296 * (b / 4294967296) + Mt.wMid a b / 4294967296 + Mt.wMore a b / 4294967296) % 18446744073709551616 from rfl)
  have HLO := Lib.hid (show Mt.wLo a b = (Mt.wMore a b * 4294967296 + Mt.wLow a b % 4294967296) % 18446744073709551616 from rfl)
  have HMO := Lib.hid (show Mt.wMore a b = (a % 4294967296 * (b / 4294967296) + Mt.wMid a b % 4294967296) % 18446744073709551616 from rfl)
  have HMI := Lib.hid (show Mt.wMid a b = (a / 4294967296 * (b % 4294967296) + Mt.wLow a b / 4294967296) % 18446744073709551616 from rfl)
  have HL := Lib.hid (show Mt.wLow a b = a % 4294967296 * (b % 4294967296) % 18446744073709551616 from rfl)
  have HA := Lib.hid (show a / 4294967296 < 4294967296 by omega)
  have HB := Lib.hid (show b / 4294967296 < 4294967296 by omega)
  clear ha hb
  generalize a % 4294967296 = al at h1 HMO HL
  generalize a / 4294967296 = ah at h2 HHI HMI HA
  generalize b % 4294967296 = bl at h3 HMI HL
  generalize b / 4294967296 = bh at h4 HHI HMO HB
  generalize Mt.wHi a b = hi at HHI ⊢
  generalize Mt.wLo a b = lo at HLO ⊢
  generalize Mt.wMore a b = mo at HHI HLO HMO
  generalize Mt.wMid a b = mi at HHI HMO HMI
  generalize Mt.wLow a b = lw at HLO HMI HL
  go_enter Tryd.func35, Tryd.ntmps35
  go_wp2
  go_ret2
  refine ⟨ret_two ?_ ?_, rfl⟩
  · simp only [wN, dN, mN, pN, qN, aN]
    have hah := Nat.mod_eq_of_lt (show ah < 18446744073709551616 by have := HA.out; omega)
    have hbh := Nat.mod_eq_of_lt (show bh < 18446744073709551616 by have := HB.out; omega)
    rw [hah, hbh]
    have e1 := HHI.out
    have e2 := HMO.out
    have e3 := HMI.out
    have e4 := HL.out
    generalize ah * bh = p1 at *
    generalize ah * bl = p2 at *
    generalize al * bh = p3 at *
    generalize al * bl = p4 at *
    congr 1
    omega
  · simp only [wN, dN, mN, pN, qN, aN]
    have hah := Nat.mod_eq_of_lt (show ah < 18446744073709551616 by have := HA.out; omega)
    have hbh := Nat.mod_eq_of_lt (show bh < 18446744073709551616 by have := HB.out; omega)
    rw [hah, hbh]
    have e1 := HLO.out
    have e2 := HMO.out
    have e3 := HMI.out
    have e4 := HL.out
    generalize ah * bl = p2 at *
    generalize al * bh = p3 at *
    generalize al * bl = p4 at *
    congr 1
    omega

theorem Mt.wHi_lt (a b : Nat) : Mt.wHi a b < 18446744073709551616 := Nat.mod_lt _ (by decide)
theorem Mt.wLo_lt (a b : Nat) : Mt.wLo a b < 18446744073709551616 := Nat.mod_lt _ (by decide)

set_option maxHeartbeats 800000 in
set_option maxRecDepth 100000 in
theorem root_any (p : Nat) (w : World) : Calls Tryd.prog 21 #[.int .u64 p] w fun e w' => e = .returned (.int .u32 (Mt.rootN p)) ∧ w = w' := by
  have HP := Lib.hid (show Mt.rootN p = Mt.rootX p 37 % 4294967296 from rfl)
  go_enter Tryd.func21, Tryd.ntmps21
  go_wp2_with fail
  go_loop [3, 4] (fun x b => ∃ j : Nat, j ≤ 37 ∧ b = .int .u64 (Mt.bit 68719476736 j) ∧ x = .int .u64 (Mt.rootX p j)) (fun _ b => (intOf b).toNat)
  case atStart => exact ⟨0, by omega, rfl, rfl⟩
  case round =>
    obtain ⟨j, hj, rfl, rfl⟩ := hrel
    have HX := Lib.hid (show Mt.rootX p (j + 1) = Mt.rootStep p (Mt.bit 68719476736 j) (Mt.rootX p j) from rfl)
    have HBN := Lib.hid (Mt.bit_next 68719476736 j)
    by_cases hz : j < 37
    · have hb0 : 0 < Mt.bit 68719476736 j := by
        unfold Mt.bit
        have : (2 : Nat) ^ j ≤ 2 ^ 36 := Nat.pow_le_pow_right (by decide) (by omega)
        exact Nat.div_pos (by simpa using this) (Nat.pow_pos (by decide))
      have hbl : Mt.bit 68719476736 j ≤ 68719476736 := Nat.div_le_self _ _
      generalize Mt.bit 68719476736 j = b at HX HBN hb0 hbl ⊢
      generalize Mt.rootX p j = x at HX ⊢
      have hb0' : (0 : Int) < (b : Int) := by omega
      obtain ⟨y, hy⟩ : ∃ y, (x + b) % 18446744073709551616 = y := ⟨_, rfl⟩
      have hyl : y < 18446744073709551616 := by rw [← hy]; exact Nat.mod_lt _ (by decide)
      have HW := Lib.hid (fun u => wide_any y y u hyl hyl)
      have HWR := Lib.hid (show IntKind.u64.wrap ((x : Int) + (b : Int)) = (y : Int) by rw [IntKind.wrap_u64]; omega)
      have HST := Lib.hid (show Mt.rootStep p b x = if Mt.wHi y y < p ∨ (Mt.wHi y y = p ∧ Mt.wLo y y = 0) then y else x by unfold Mt.rootStep; rw [hy])
      clear hy hyl
      have HBD := Lib.hid (show IntKind.u64.wrap ((b : Int) / 2) = ((b / 2 : Nat) : Int) by rw [IntKind.wrap_u64]; omega)
      clear hbl
      generalize Mt.wHi y y = h at HW HST
      generalize Mt.wLo y y = l at HW HST
      go_wp2_with fail
      rw [HWR.out]
      refine (HW.out _).mono ?_
      rintro e w' ⟨rfl, rfl⟩
      by_cases c1 : h < p
      · have t1 : (h : Int) < (p : Int) := by omega
        have HS := Lib.hid (show Mt.rootX p (j + 1) = y by rw [HX.out, HST.out, if_pos (.inl c1)])
        clear c1
        go_wp2_with fail
        all_goals
          go_round
          case rel => exact ⟨j + 1, by omega, by rw [HBD.out, HBN.out], by rw [HS.out, HWR.out]⟩
          case measure => simp only [intOf]; rw [HBD.out]; omega
      · have t1 : decide ((h : Int) < (p : Int)) = false := by simp; omega
        by_cases c2 : h = p ∧ l = 0
        · have t2 : ((h : Int) == (p : Int)) = true := by simp; omega
          have t3 : ((l : Int) == 0) = true := by simp; omega
          have HS := Lib.hid (show Mt.rootX p (j + 1) = y by rw [HX.out, HST.out, if_pos (.inr c2)])
          clear c1 c2
          go_wp2_with fail
          all_goals
            go_round
            case rel => exact ⟨j + 1, by omega, by rw [HBD.out, HBN.out], by rw [HS.out, HWR.out]⟩
            case measure => simp only [intOf]; rw [HBD.out]; omega
        · have HS := Lib.hid (show Mt.rootX p (j + 1) = x by rw [HX.out, HST.out, if_neg (by omega)])
          by_cases c3 : h = p
          · have t2 : ((h : Int) == (p : Int)) = true := by simp; omega
            have t3 : ((l : Int) == 0) = false := by simp; omega
            clear c1 c2 c3
            go_wp2_with fail
            all_goals
              go_round
              case rel => first | (exfalso; have := of_decide_eq_false t1; omega) | exact ⟨j + 1, by omega, by rw [HBD.out, HBN.out], by rw [HS.out]⟩
              case measure => simp only [intOf]; rw [HBD.out]; omega
          · have t2 : ((h : Int) == (p : Int)) = false := by simp; omega
            clear c1 c2 c3
            go_wp2_with fail
            all_goals
              go_round
              case rel => first | (exfalso; have := of_decide_eq_false t1; omega) | exact ⟨j + 1, by omega, by rw [HBD.out, HBN.out], by rw [HS.out]⟩
              case measure => simp only [intOf]; rw [HBD.out]; omega
    · obtain rfl : j = 37 := by omega
      have hb0 : Mt.bit 68719476736 37 = 0 := by decide
      rw [hb0]
      generalize Mt.rootX p 37 = x at HP ⊢
      have HF := Lib.hid (show (x : Int) % 4294967296 % 4294967296 = (Mt.rootN p : Int) by rw [HP.out]; omega)
      go_wp2_with fail
      go_ret
      exact ⟨Mt.ret_int (by rw [HP.out]; omega), rfl⟩

set_option maxHeartbeats 800000 in
set_option maxRecDepth 100000 in
theorem cube_any (p : Nat) (w : World) (hp : p < 4294967296) : Calls Tryd.prog 22 #[.int .u64 p] w fun e w' => e = .returned (.int .u32 (Mt.cubeN p)) ∧ w = w' := by
  have HP := Lib.hid (show Mt.cubeN p = Mt.cubeX p 36 % 4294967296 from rfl)
  go_enter Tryd.func22, Tryd.ntmps22
  go_wp2_with fail
  go_loop [3, 4] (fun x b => ∃ j : Nat, j ≤ 36 ∧ b = .int .u64 (Mt.bit 34359738368 j) ∧ x = .int .u64 (Mt.cubeX p j)) (fun _ b => (intOf b).toNat)
  case atStart => exact ⟨0, by omega, rfl, rfl⟩
  case round =>
    obtain ⟨j, hj, rfl, rfl⟩ := hrel
    have HX := Lib.hid (show Mt.cubeX p (j + 1) = Mt.cubeStep p (Mt.bit 34359738368 j) (Mt.cubeX p j) from rfl)
    have HBN := Lib.hid (Mt.bit_next 34359738368 j)
    by_cases hz : j < 36
    · have hb0 : 0 < Mt.bit 34359738368 j := by
        unfold Mt.bit
        have : (2 : Nat) ^ j ≤ 2 ^ 35 := Nat.pow_le_pow_right (by decide) (by omega)
        exact Nat.div_pos (by simpa using this) (Nat.pow_pos (by decide))
      have hbl : Mt.bit 34359738368 j ≤ 34359738368 := Nat.div_le_self _ _
      generalize Mt.bit 34359738368 j = b at HX HBN hb0 hbl ⊢
      generalize Mt.cubeX p j = x at HX ⊢
      have hb0' : (0 : Int) < (b : Int) := by omega
      obtain ⟨y, hy⟩ : ∃ y, (x + b) % 18446744073709551616 = y := ⟨_, rfl⟩
      have hyl : y < 18446744073709551616 := by rw [← hy]; exact Nat.mod_lt _ (by decide)
      have HW := Lib.hid (fun u => wide_any y y u hyl hyl)
      have HWR := Lib.hid (show IntKind.u64.wrap ((x : Int) + (b : Int)) = (y : Int) by rw [IntKind.wrap_u64]; omega)
      have HBD := Lib.hid (show IntKind.u64.wrap ((b : Int) / 2) = ((b / 2 : Nat) : Int) by rw [IntKind.wrap_u64]; omega)
      clear hbl
      have HST := Lib.hid (show Mt.cubeStep p b x = if Mt.cubeC y < p * 4294967296 % 18446744073709551616 ∨ (Mt.cubeC y = p * 4294967296 % 18446744073709551616 ∧ Mt.cubeB y = 0) then y else x by unfold Mt.cubeStep; rw [hy])
      have HC := Lib.hid (show IntKind.u64.wrap (IntKind.u64.wrap ((Mt.wHi y y : Int) * (y : Int)) + (Mt.wHi (Mt.wLo y y) y : Int)) = (Mt.cubeC y : Int) by
        rw [pN, wN, aN, wN]
        congr 1
        unfold Mt.cubeC
        omega)
      have HW2 := Lib.hid (fun u => wide_any (Mt.wLo y y) y u (Mt.wLo_lt _ _) hyl)
      have HBE := Lib.hid (show Mt.cubeB y = Mt.wLo (Mt.wLo y y) y from rfl)
      clear hy hyl
      generalize Mt.wHi (Mt.wLo y y) y = a2 at HW2 HC
      generalize Mt.wLo (Mt.wLo y y) y = l2 at HW2 HBE
      generalize Mt.wHi y y = h1 at HW HC
      generalize Mt.wLo y y = l1 at HW HW2
      rw [HBE.out] at HST
      generalize Mt.cubeC y = h at HC HST
      rw [show p * 4294967296 % 18446744073709551616 = p * 4294967296 by omega] at HST
      go_wp2_with fail
      rw [HWR.out]
      go_wp2_with fail
      refine (HW.out _).mono ?_
      rintro e w' ⟨rfl, rfl⟩
      go_wp2_with fail
      refine (HW2.out _).mono ?_
      rintro e w' ⟨rfl, rfl⟩
      go_upto_region 9 with fail
      rw [HC.out]
      have hpw : IntKind.u64.wrap ((p : Int) * 4294967296) = (p : Int) * 4294967296 := by rw [IntKind.wrap_u64]; omega
      by_cases c1 : h < p * 4294967296
      · have t1 : (h : Int) < (p : Int) * 4294967296 := by omega
        have HS := Lib.hid (show Mt.cubeX p (j + 1) = y by rw [HX.out, HST.out, if_pos (.inl c1)])
        clear c1
        go_wp2_with fail
        all_goals
          go_round
          case rel => exact ⟨j + 1, by omega, by rw [HBD.out, HBN.out], by rw [HS.out]⟩
          case measure => simp only [intOf]; rw [HBD.out]; omega
      · have t1 : decide ((h : Int) < (p : Int) * 4294967296) = false := by simp; omega
        by_cases c2 : h = p * 4294967296 ∧ l2 = 0
        · have t2 : ((h : Int) == (p : Int) * 4294967296) = true := by simp; omega
          have t3 : ((l2 : Int) == 0) = true := by simp; omega
          have HS := Lib.hid (show Mt.cubeX p (j + 1) = y by rw [HX.out, HST.out, if_pos (.inr c2)])
          clear c1 c2
          go_wp2_with fail
          all_goals
            go_round
            case rel => first | (exfalso; have := of_decide_eq_false t1; omega) | exact ⟨j + 1, by omega, by rw [HBD.out, HBN.out], by rw [HS.out]⟩
            case measure => simp only [intOf]; rw [HBD.out]; omega
        · have HS := Lib.hid (show Mt.cubeX p (j + 1) = x by rw [HX.out, HST.out, if_neg (by omega)])
          by_cases c3 : h = p * 4294967296
          · have t2 : ((h : Int) == (p : Int) * 4294967296) = true := by simp; omega
            have t3 : ((l2 : Int) == 0) = false := by simp; omega
            clear c1 c2 c3
            go_wp2_with fail
            all_goals
              go_round
              case rel => first | (exfalso; have := of_decide_eq_false t1; omega) | exact ⟨j + 1, by omega, by rw [HBD.out, HBN.out], by rw [HS.out]⟩
              case measure => simp only [intOf]; rw [HBD.out]; omega
          · have t2 : ((h : Int) == (p : Int) * 4294967296) = false := by simp; omega
            clear c1 c2 c3
            go_wp2_with fail
            all_goals
              go_round
              case rel => first | (exfalso; have := of_decide_eq_false t1; omega) | exact ⟨j + 1, by omega, by rw [HBD.out, HBN.out], by rw [HS.out]⟩
              case measure => simp only [intOf]; rw [HBD.out]; omega
    · obtain rfl : j = 36 := by omega
      have hb0 : Mt.bit 34359738368 36 = 0 := by decide
      rw [hb0]
      generalize Mt.cubeX p 36 = x at HP ⊢
      have HF := Lib.hid (show (x : Int) % 4294967296 % 4294967296 = (Mt.cubeN p : Int) by rw [HP.out]; omega)
      go_wp2_with fail
      go_ret
      exact ⟨Mt.ret_int (by rw [HP.out]; omega), rfl⟩

end Go.Proofs.YtpdionmecflibaaDoor
