/-
  What the calls crc.shift, Add and Sum, and the document's Add and Sum, come to.
-/
import Derived.Test.YtmahkgkhnpffeaaPut
import Derived.Test.YtmahkgkhnpffeaaCrcMath
import Derived.Deep.LoopGhost
namespace Go.Proofs.Ytmahkgkhnpffeaa
open Go.RowKit

theorem shift_bits (R : Nat) (hR : R < 4294967296) : bits .and .u32 (R : Int) 1 = ((R % 2 : Nat) : Int) ∧ bits .xor .u32 ((R : Int) / 2) 3988292384 = ((R / 2 ^^^ 3988292384 : Nat) : Int) := by
  have h1 := u32_xor_nat (R / 2) 3988292384 (by omega) (by omega)
  have h2 := bits_mask .u32 32 (by decide) (fun n ha hb => by simp [IntKind.wrap, IntKind.bits, IntKind.signed]; omega) 1 (by decide) (R : Int) (by omega) (by simp; omega)
  exact ⟨by simpa using h2, by simpa using h1⟩

set_option maxRecDepth 100000 in
theorem shift_any (r : Nat) (w : World) (hr : r < 4294967296) : Calls Try.prog 88 #[.int .u32 r] w fun e w' => e = .returned (.int .u32 (Mt.sh 8 r)) ∧ w = w' := by
  go_enter Try.func88, Try.ntmps88
  go_wp2
  go_loop [0, 4] (fun v i => ∃ k : Nat, k ≤ 8 ∧ i = .int .i64 k ∧ v = .int .u32 (Mt.sh k r)) (fun _ i => 8 - (intOf i).toNat)
  case atStart => exact ⟨0, by omega, rfl, rfl⟩
  case round =>
    obtain ⟨k, hk, rfl, rfl⟩ := hrel
    have hR := Mt.sh_lt hr k
    have HS := Lib.hid (show Mt.sh (k + 1) r = Mt.sh1 (Mt.sh k r) from rfl)
    obtain ⟨R, hRe⟩ : ∃ R, Mt.sh k r = R := ⟨_, rfl⟩
    rw [hRe] at hR HS ⊢
    have HE := Lib.hid hRe
    clear hRe
    have hb := shift_bits R hR
    have HX := Lib.hid hb.2
    have HR := Lib.hid hR
    by_cases hlt : k < 8
    · by_cases hodd : R % 2 = 1
      · have hand : bits BinOp.and IntKind.u32 (R : Int) 1 = 1 := by rw [hb.1, hodd]; rfl
        have HO := Lib.hid hodd
        clear hb hodd hR
        go_wp2
        go_round
        case rel => exact ⟨k + 1, by omega, by go_num, by rw [HX.out, HS.out, Mt.sh1, if_pos HO.out]⟩
        case measure => simp [intOf]; omega
      · have hand : bits BinOp.and IntKind.u32 (R : Int) 1 = 0 := by rw [hb.1]; omega
        have HO := Lib.hid hodd
        clear hb hodd hR
        go_wp2
        go_round
        case rel => exact ⟨k + 1, by omega, by go_num, by rw [HS.out, Mt.sh1, if_neg HO.out]; rfl⟩
        case measure => simp [intOf]; omega
    · clear hb hR
      go_wp2
      go_ret
      obtain rfl : k = 8 := by omega
      exact ⟨Mt.ret_int (by rw [← HE.out]), rfl⟩

theorem turn_nat (x : Nat) (h : x < 4294967296) : 4294967295 ^^^ x = 4294967295 - x := by
  have e : (4294967295 : Nat) = 2 ^ 32 - 1 := by decide
  have h' : x < 2 ^ 32 := by simpa using h
  apply Nat.eq_of_testBit_eq
  intro i
  have h3 := Nat.testBit_two_pow_sub_succ h' i
  have e2 : 2 ^ 32 - 1 - x = 2 ^ 32 - (x + 1) := by omega
  rw [e, Nat.testBit_xor, Nat.testBit_two_pow_sub_one, e2, h3]
  by_cases hi : i < 32
  · simp [hi]
  · have : x.testBit i = false := Nat.testBit_lt_two_pow (Nat.lt_of_lt_of_le h' (Nat.pow_le_pow_right (by decide) (by omega)))
    simp [hi, this]
theorem turn_all (x : Nat) (h : x < 4294967296) : bits .xor .u32 IntKind.u32.max (x : Int) = ((4294967295 - x : Nat) : Int) := by
  have h1 := u32_xor_nat 4294967295 x (by omega) h
  have e : IntKind.u32.max = ((4294967295 : Nat) : Int) := by decide
  rw [← turn_nat x h, e, h1]

set_option maxRecDepth 100000 in
theorem add_nil (sum : Nat) (a : Option Addr) (cap : Nat) (w : World) (h : sum < 4294967296) :
    Calls Try.prog 71 #[.int .u32 sum, .slice a 0 cap] w fun e w' => e = .returned (.int .u32 sum) ∧ w = w' := by
  have H1 := Lib.hid (turn_all sum h)
  have H2 := Lib.hid (turn_all (4294967295 - sum) (by omega))
  go_enter Try.func71, Try.ntmps71
  go_wp2
  refine wp_loop_rounds 1 ?_
  rw [rounds_succ]
  go_wp2
  go_ret
  exact ⟨Mt.ret_int (by rw [H1.out, H2.out]; omega), rfl⟩

set_option maxHeartbeats 800000 in
set_option maxRecDepth 100000 in
theorem add_some (sum : Nat) (b off cap : Nat) (ss : List ByteArray) (w : World) (h : sum < 4294967296) (hn : ss.length ≤ 9223372036854775807) (hs : ∀ p ∈ ss, p.size ≤ 9223372036854775807)
    (hc : ∀ i (hi : i < ss.length), w.cell? ⟨b, off + i, none⟩ = some (.string ss[i])) :
    Calls Try.prog 71 #[.int .u32 sum, .slice (some ⟨b, off, none⟩) ss.length cap] w fun e w' => e = .returned (.int .u32 (Mt.addS sum (Mt.cat ss))) ∧ w = w' := by
  have HC := Lib.hid hc
  have HN := Lib.hid hs
  have H1 := Lib.hid (turn_all sum h)
  have H2 := Lib.hid (fun r (hr : r < 4294967296) => turn_all r hr)
  have HR0 := Lib.hid (show 4294967295 - sum < 4294967296 by omega)
  obtain ⟨n, hne⟩ : ∃ n, ss.length = n := ⟨_, rfl⟩
  have HNE := Lib.hid hne
  rw [hne] at hn ⊢
  clear hc hs hne h
  go_enter Try.func71, Try.ntmps71
  go_wp2
  rw [H1.out]
  go_loop [5, 13] (fun r i => ∃ k : Nat, k ≤ n ∧ i = .int .i64 k ∧ r = .int .u32 (Mt.reg (4294967295 - sum) (Mt.cat (ss.take k)))) (fun _ i => n - (intOf i).toNat)
  case atStart => exact ⟨0, Nat.zero_le _, rfl, rfl⟩
  case round =>
    obtain ⟨k, hk, rfl, rfl⟩ := hrel
    by_cases hlt : k < n
    · have hkl : k < ss.length := by have := HNE.out; omega
      obtain ⟨p, hp⟩ : ∃ p, ss[k] = p := ⟨_, rfl⟩
      have hcell : w.cell? ⟨b, off + k, none⟩ = some (.string p) := by rw [← hp]; exact HC.out k hkl
      have hps : p.size ≤ 9223372036854775807 := HN.out p (by rw [← hp]; exact List.getElem_mem hkl)
      have HCAT := Lib.hid (show Mt.cat (ss.take (k + 1)) = Mt.cat (ss.take k) ++ p.data.toList by rw [Mt.cat_snoc ss k hkl, hp])
      obtain ⟨R, hR⟩ : ∃ R, Mt.reg (4294967295 - sum) (Mt.cat (ss.take k)) = R := ⟨_, rfl⟩
      have HRL := Lib.hid (show R < 4294967296 by rw [← hR]; exact Mt.reg_lt HR0.out _)
      rw [hR]
      have HR := Lib.hid hR
      clear hp hR
      go_wp2_with fail
      go_loop [5, 19] (fun r i => ∃ j : Nat, j ≤ p.size ∧ i = .int .i64 j ∧ r = .int .u32 (Mt.reg R (p.data.toList.take j))) (fun _ i => p.size - (intOf i).toNat)
      case atStart => exact ⟨0, Nat.zero_le _, rfl, rfl⟩
      case round =>
        obtain ⟨j, hj, rfl, rfl⟩ := hrel
        by_cases hjl : j < p.size
        · obtain ⟨c, hcc⟩ : ∃ c, p[j] = c := ⟨_, rfl⟩
          have HJ := Lib.hid (show Mt.reg R (p.data.toList.take (j + 1)) = Mt.by1 (Mt.reg R (p.data.toList.take j)) c by rw [Mt.take_snoc p j hjl, hcc, Mt.reg_snoc])
          obtain ⟨Q, hQ⟩ : ∃ Q, Mt.reg R (p.data.toList.take j) = Q := ⟨_, rfl⟩
          have hQL : Q < 4294967296 := by rw [← hQ]; exact Mt.reg_lt HRL.out _
          rw [hQ] at HJ ⊢
          clear hQ
          have hc256 : (c.toNat : Int) < 256 := by have := c.toNat_lt; omega
          have hxor : bits BinOp.xor IntKind.u32 (Q : Int) (c.toNat : Int) = ((Q ^^^ c.toNat : Nat) : Int) := u32_xor_nat Q c.toNat hQL (by omega)
          have HSH := Lib.hid (fun u => shift_any (Q ^^^ c.toNat) u (Mt.xor_byte_lt hQL c))
          clear hQL
          go_wp2_with fail
          refine (HSH.out _).mono ?_
          rintro e w' ⟨rfl, rfl⟩
          go_wp2_with fail
          go_round
          case rel => exact ⟨j + 1, by omega, by go_num, by rw [HJ.out]; rfl⟩
          case measure => simp [intOf]; omega
        · obtain rfl : j = p.size := by omega
          have HT := Lib.hid (show p.data.toList.take p.size = p.data.toList from List.take_of_length_le (Nat.le_refl _))
          go_wp2_with fail
          go_round
          case rel => exact ⟨k + 1, by omega, by go_num, by rw [HCAT.out, Mt.reg_append, HR.out, HT.out]⟩
          case measure => simp [intOf]; omega
    · obtain rfl : k = n := by omega
      have HT := Lib.hid (show ss.take k = ss from List.take_of_length_le (by have := HNE.out; omega))
      go_wp2_with fail
      go_ret
      exact ⟨Mt.ret_int (by rw [HT.out, H2.out _ (Mt.reg_lt HR0.out _)]; rfl), rfl⟩

end Go.Proofs.Ytmahkgkhnpffeaa
