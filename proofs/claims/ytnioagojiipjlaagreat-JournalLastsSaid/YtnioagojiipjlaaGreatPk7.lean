/-
  Some texts of one proof, one behind the other.
-/
import Derived.Deep.LoopGhost
import Derived.Deep.AppendLies
import Derived.Test.YtnioagojiipjlaaGreatPk0
import Derived.Test.YtnioagojiipjlaaGreatPk1
set_option linter.unusedVariables false
set_option linter.unusedSimpArgs false

/-
  What the calls crc.shift, Add and Sum, and the document's Add and Sum, come to.
-/
namespace Go.Proofs.YtnioagojiipjlaaGreat
open Go.RowKit

theorem shift_bits (R : Nat) (hR : R < 4294967296) : bits .and .u32 (R : Int) 1 = ((R % 2 : Nat) : Int) ∧ bits .xor .u32 ((R : Int) / 2) 3988292384 = ((R / 2 ^^^ 3988292384 : Nat) : Int) := by
  have h1 := u32_xor_nat (R / 2) 3988292384 (by omega) (by omega)
  have h2 := bits_mask .u32 32 (by decide) (fun n ha hb => by simp [IntKind.wrap, IntKind.bits, IntKind.signed]; omega) 1 (by decide) (R : Int) (by omega) (by simp; omega)
  exact ⟨by simpa using h2, by simpa using h1⟩

set_option maxRecDepth 100000 in
theorem shift_any (r : Nat) (w : World) (hr : r < 4294967296) : Calls Tryz.prog 133 #[.int .u32 r] w fun e w' => e = .returned (.int .u32 (Mt.sh 8 r)) ∧ w = w' := by
  go_enter Tryz.func133, Tryz.ntmps133
  go_wp2
  go_loop [0, 4] (fun v i => ∃ k : Nat, k ≤ 8 ∧ i = .int .i64 k ∧ v = .int .u32 (Mt.sh k r)) (fun _ i => 8 - (intOf i).toNat)
  case atStart => exact ⟨0, by omega, rfl, rfl⟩
  case round =>
    obtain ⟨k, hk, rfl, rfl⟩ := hrel
    have hR := Mt.sh_lt hr k
    have HS := Lib.hid (show Mt.sh (k + 1) r = Mt.sh1 (Mt.sh k r) from rfl)
    obtain ⟨R, hRe⟩ : ∃ R, Mt.sh k r = R := ⟨_, rfl⟩
    rw [hRe] at hR HS ⊢
    have HE := Lib.hid hRe
    clear hRe
    have hb := shift_bits R hR
    have HX := Lib.hid hb.2
    have HR := Lib.hid hR
    by_cases hlt : k < 8
    · by_cases hodd : R % 2 = 1
      · have hand : bits BinOp.and IntKind.u32 (R : Int) 1 = 1 := by rw [hb.1, hodd]; rfl
        have HO := Lib.hid hodd
        clear hb hodd hR
        go_wp2
        go_round
        case rel => exact ⟨k + 1, by omega, by go_num, by rw [HX.out, HS.out, Mt.sh1, if_pos HO.out]⟩
        case measure => simp [intOf]; omega
      · have hand : bits BinOp.and IntKind.u32 (R : Int) 1 = 0 := by rw [hb.1]; omega
        have HO := Lib.hid hodd
        clear hb hodd hR
        go_wp2
        go_round
        case rel => exact ⟨k + 1, by omega, by go_num, by rw [HS.out, Mt.sh1, if_neg HO.out]; rfl⟩
        case measure => simp [intOf]; omega
    · clear hb hR
      go_wp2
      go_ret
      obtain rfl : k = 8 := by omega
      exact ⟨Mt.ret_int (by rw [← HE.out]), rfl⟩

theorem turn_nat (x : Nat) (h : x < 4294967296) : 4294967295 ^^^ x = 4294967295 - x := by
  have e : (4294967295 : Nat) = 2 ^ 32 - 1 := by decide
  have h' : x < 2 ^ 32 := by simpa using h
  apply Nat.eq_of_testBit_eq
  intro i
  have h3 := Nat.testBit_two_pow_sub_succ h' i
  have e2 : 2 ^ 32 - 1 - x = 2 ^ 32 - (x + 1) := by omega
  rw [e, Nat.testBit_xor, Nat.testBit_two_pow_sub_one, e2, h3]
  by_cases hi : i < 32
  · simp [hi]
  · have : x.testBit i = false := Nat.testBit_lt_two_pow (Nat.lt_of_lt_of_le h' (Nat.pow_le_pow_right (by decide) (by omega)))
    simp [hi, this]
theorem turn_all (x : Nat) (h : x < 4294967296) : bits .xor .u32 IntKind.u32.max (x : Int) = ((4294967295 - x : Nat) : Int) := by
  have h1 := u32_xor_nat 4294967295 x (by omega) h
  have e : IntKind.u32.max = ((4294967295 : Nat) : Int) := by decide
  rw [← turn_nat x h, e, h1]

set_option maxRecDepth 100000 in
theorem add_nil (sum : Nat) (a : Option Addr) (cap : Nat) (w : World) (h : sum < 4294967296) :
    Calls Tryz.prog 121 #[.int .u32 sum, .slice a 0 cap] w fun e w' => e = .returned (.int .u32 sum) ∧ w = w' := by
  have H1 := Lib.hid (turn_all sum h)
  have H2 := Lib.hid (turn_all (4294967295 - sum) (by omega))
  go_enter Tryz.func121, Tryz.ntmps121
  go_wp2
  refine wp_loop_rounds 1 ?_
  rw [rounds_succ]
  go_wp2
  go_ret
  exact ⟨Mt.ret_int (by rw [H1.out, H2.out]; omega), rfl⟩

set_option maxHeartbeats 800000 in
set_option maxRecDepth 100000 in
theorem add_some (sum : Nat) (b off cap : Nat) (ss : List ByteArray) (w : World) (h : sum < 4294967296) (hn : ss.length ≤ 9223372036854775807) (hs : ∀ p ∈ ss, p.size ≤ 9223372036854775807)
    (hc : ∀ i (hi : i < ss.length), w.cell? ⟨b, off + i, none⟩ = some (.string ss[i])) :
    Calls Tryz.prog 121 #[.int .u32 sum, .slice (some ⟨b, off, none⟩) ss.length cap] w fun e w' => e = .returned (.int .u32 (Mt.addS sum (Mt.cat ss))) ∧ w = w' := by
  have HC := Lib.hid hc
  have HN := Lib.hid hs
  have H1 := Lib.hid (turn_all sum h)
  have H2 := Lib.hid (fun r (hr : r < 4294967296) => turn_all r hr)
  have HR0 := Lib.hid (show 4294967295 - sum < 4294967296 by omega)
  obtain ⟨n, hne⟩ : ∃ n, ss.length = n := ⟨_, rfl⟩
  have HNE := Lib.hid hne
  rw [hne] at hn ⊢
  clear hc hs hne h
  go_enter Tryz.func121, Tryz.ntmps121
  go_wp2
  rw [H1.out]
  go_loop [5, 13] (fun r i => ∃ k : Nat, k ≤ n ∧ i = .int .i64 k ∧ r = .int .u32 (Mt.reg (4294967295 - sum) (Mt.cat (ss.take k)))) (fun _ i => n - (intOf i).toNat)
  case atStart => exact ⟨0, Nat.zero_le _, rfl, rfl⟩
  case round =>
    obtain ⟨k, hk, rfl, rfl⟩ := hrel
    by_cases hlt : k < n
    · have hkl : k < ss.length := by have := HNE.out; omega
      obtain ⟨p, hp⟩ : ∃ p, ss[k] = p := ⟨_, rfl⟩
      have hcell : w.cell? ⟨b, off + k, none⟩ = some (.string p) := by rw [← hp]; exact HC.out k hkl
      have hps : p.size ≤ 9223372036854775807 := HN.out p (by rw [← hp]; exact List.getElem_mem hkl)
      have HCAT := Lib.hid (show Mt.cat (ss.take (k + 1)) = Mt.cat (ss.take k) ++ p.data.toList by rw [Mt.cat_snoc ss k hkl, hp])
      obtain ⟨R, hR⟩ : ∃ R, Mt.reg (4294967295 - sum) (Mt.cat (ss.take k)) = R := ⟨_, rfl⟩
      have HRL := Lib.hid (show R < 4294967296 by rw [← hR]; exact Mt.reg_lt HR0.out _)
      rw [hR]
      have HR := Lib.hid hR
      clear hp hR
      go_wp2_with fail
      go_loop [5, 19] (fun r i => ∃ j : Nat, j ≤ p.size ∧ i = .int .i64 j ∧ r = .int .u32 (Mt.reg R (p.data.toList.take j))) (fun _ i => p.size - (intOf i).toNat)
      case atStart => exact ⟨0, Nat.zero_le _, rfl, rfl⟩
      case round =>
        obtain ⟨j, hj, rfl, rfl⟩ := hrel
        by_cases hjl : j < p.size
        · obtain ⟨c, hcc⟩ : ∃ c, p[j] = c := ⟨_, rfl⟩
          have HJ := Lib.hid (show Mt.reg R (p.data.toList.take (j + 1)) = Mt.by1 (Mt.reg R (p.data.toList.take j)) c by rw [Mt.take_snoc p j hjl, hcc, Mt.reg_snoc])
          obtain ⟨Q, hQ⟩ : ∃ Q, Mt.reg R (p.data.toList.take j) = Q := ⟨_, rfl⟩
          have hQL : Q < 4294967296 := by rw [← hQ]; exact Mt.reg_lt HRL.out _
          rw [hQ] at HJ ⊢
          clear hQ
          have hc256 : (c.toNat : Int) < 256 := by have := c.toNat_lt; omega
          have hxor : bits BinOp.xor IntKind.u32 (Q : Int) (c.toNat : Int) = ((Q ^^^ c.toNat : Nat) : Int) := u32_xor_nat Q c.toNat hQL (by omega)
          have HSH := Lib.hid (fun u => shift_any (Q ^^^ c.toNat) u (Mt.xor_byte_lt hQL c))
          clear hQL
          go_wp2_with fail
          refine (HSH.out _).mono ?_
          rintro e w' ⟨rfl, rfl⟩
          go_wp2_with fail
          go_round
          case rel => exact ⟨j + 1, by omega, by go_num, by rw [HJ.out]; rfl⟩
          case measure => simp [intOf]; omega
        · obtain rfl : j = p.size := by omega
          have HT := Lib.hid (show p.data.toList.take p.size = p.data.toList from List.take_of_length_le (Nat.le_refl _))
          go_wp2_with fail
          go_round
          case rel => exact ⟨k + 1, by omega, by go_num, by rw [HCAT.out, Mt.reg_append, HR.out, HT.out]⟩
          case measure => simp [intOf]; omega
    · obtain rfl : k = n := by omega
      have HT := Lib.hid (show ss.take k = ss from List.take_of_length_le (by have := HNE.out; omega))
      go_wp2_with fail
      go_ret
      exact ⟨Mt.ret_int (by rw [HT.out, H2.out _ (Mt.reg_lt HR0.out _)]; rfl), rfl⟩

end Go.Proofs.YtnioagojiipjlaaGreat

/-
  What crc.Sum comes to.
-/
namespace Go.Proofs.YtnioagojiipjlaaGreat
open Go.RowKit

theorem sum_nil (a : Option Addr) (cap : Nat) (w : World) : Calls Tryz.prog 103 #[.slice a 0 cap] w fun e w' => e = .returned (.int .u32 (Mt.addS 0 [])) ∧ w = w' := by
  have HA := Lib.hid (fun u => add_nil 0 a cap u (by omega))
  go_enter Tryz.func103, Tryz.ntmps103
  go_wp2_with fail
  refine (HA.out _).mono ?_
  rintro e w' ⟨rfl, rfl⟩
  go_wp2_with fail
  go_ret
  exact ⟨rfl, rfl⟩

theorem sum_some (b off cap : Nat) (ss : List ByteArray) (w : World) (hn : ss.length ≤ 9223372036854775807) (hs : ∀ p ∈ ss, p.size ≤ 9223372036854775807)
    (hc : ∀ i (hi : i < ss.length), w.cell? ⟨b, off + i, none⟩ = some (.string ss[i])) :
    Calls Tryz.prog 103 #[.slice (some ⟨b, off, none⟩) ss.length cap] w fun e w' => e = .returned (.int .u32 (Mt.addS 0 (Mt.cat ss))) ∧ w = w' := by
  have HA := Lib.hid (add_some 0 b off cap ss w (by omega) hn hs hc)
  clear hn hs hc
  go_enter Tryz.func103, Tryz.ntmps103
  go_wp2_with fail
  refine (HA.out).mono ?_
  rintro e w' ⟨rfl, rfl⟩
  go_wp2_with fail
  go_ret
  exact ⟨rfl, rfl⟩

/-- Sum of one text that was just laid. -/
theorem sum_one (s : ByteArray) (B : Nat) (w : World) (hB : B = w.heap.size) (hs : s.size ≤ 9223372036854775807) :
    Calls Tryz.prog 103 #[.slice (some ⟨B, 0, none⟩) 1 1] (w.alloc (.cells #[.string s] 9)) fun e w' => e = .returned (.int .u32 (Mt.addS 0 s.data.toList)) ∧ (w.alloc (.cells #[.string s] 9)) = w' := by
  subst hB
  have h := sum_some w.heap.size 0 1 [s] (w.alloc (.cells #[.string s] 9)) (by simp) (by simpa using hs) (fun i hi => by
    obtain rfl : i = 0 := by simpa using hi
    exact cell_one_new w (.string s) 9 0 (.string s) rfl)
  have e : Mt.cat [s] = s.data.toList := by simp [Mt.cat]
  rwa [e] at h
theorem cell_two (w : World) (x y : Value) (t : TypeId) (i : Nat) (hi : i < 2) : (w.alloc (.cells #[x, y] t)).cell? ⟨w.heap.size, 0 + i, none⟩ = some ([x, y][i]'hi) := by
  have h := World.news_of_block (w := w.alloc (.cells #[x, y] t)) (B := w.heap.size) (cs := #[x, y]) (t := t) (fr := (0, 0)) (heap_alloc_new w _) i ([x, y][i]'hi) (by
    match i, hi with
    | 0, _ => rfl
    | 1, _ => rfl)
  have e : (⟨w.heap.size, 0, none⟩ : Addr).add i = ⟨w.heap.size, 0 + i, none⟩ := by unfold Addr.add; split <;> simp_all
  rwa [e] at h
theorem sum_two (s t : ByteArray) (B : Nat) (w : World) (hB : B = w.heap.size) (hs : s.size ≤ 9223372036854775807) (ht : t.size ≤ 9223372036854775807) :
    Calls Tryz.prog 103 #[.slice (some ⟨B, 0, none⟩) 2 2] (w.alloc (.cells #[.string s, .string t] 9)) fun e w' => e = .returned (.int .u32 (Mt.addS 0 (Mt.cat [s, t]))) ∧ (w.alloc (.cells #[.string s, .string t] 9)) = w' := by
  subst hB
  exact sum_some w.heap.size 0 2 [s, t] (w.alloc (.cells #[.string s, .string t] 9)) (by simp) (by simp; exact ⟨hs, ht⟩) (fun i hi => by
    rw [cell_two w _ _ _ i hi]
    match i, hi with
    | 0, _ => rfl
    | 1, _ => rfl)

end Go.Proofs.YtnioagojiipjlaaGreat

/-
  What the document's Add and Sum, the joining of parts, and the chapter's examples come to.
-/
namespace Go.Proofs.YtnioagojiipjlaaGreat
open Go.RowKit

theorem rhalf (R : Nat) (hR : R < 4294967296) : (R : Int) / 2 % 4294967296 = ((R / 2 : Nat) : Int) := by omega
theorem rpoly (R : Nat) (hR : R < 4294967296) : bits .xor .u32 ((R : Int) / 2 % 4294967296) 3988292384 = ((R / 2 ^^^ 3988292384 : Nat) : Int) := by
  rw [rhalf R hR, ← (shift_bits R hR).2]; rfl

theorem wrap_full (x : Nat) (h : x < 4294967296) : (4294967295 - (x : Int)) % 4294967296 = ((4294967295 - x : Nat) : Int) := by omega

set_option maxHeartbeats 800000 in
set_option maxRecDepth 100000 in
theorem radd_any (sum : Nat) (s : ByteArray) (w : World) (h : sum < 4294967296) (hs : s.size ≤ 140737488351232) :
    Calls Tryz.prog 98 #[.int .u32 sum, .string s] w fun e w' => e = .returned (.int .u32 (Mt.addS sum s.data.toList)) ∧ w = w' := by
  have H1 := Lib.hid (wrap_full sum h)
  have H2 := Lib.hid (fun r (hr : r < 4294967296) => wrap_full r hr)
  have HR0 := Lib.hid (show 4294967295 - sum < 4294967296 by omega)
  clear h
  go_enter Tryz.func98, Tryz.ntmps98
  go_wp2
  rw [H1.out]
  go_loop [5, 6] (fun r i => ∃ k : Nat, k ≤ s.size ∧ i = .int .i64 k ∧ r = .int .u32 (Mt.reg (4294967295 - sum) (s.data.toList.take k))) (fun _ i => s.size - (intOf i).toNat)
  case atStart => exact ⟨0, Nat.zero_le _, rfl, rfl⟩
  case round =>
    obtain ⟨k, hk, rfl, rfl⟩ := hrel
    by_cases hlt : k < s.size
    · obtain ⟨c, hcc⟩ : ∃ c, s[k] = c := ⟨_, rfl⟩
      have HJ := Lib.hid (show Mt.reg (4294967295 - sum) (s.data.toList.take (k + 1)) = Mt.by1 (Mt.reg (4294967295 - sum) (s.data.toList.take k)) c by rw [Mt.take_snoc s k hlt, hcc, Mt.reg_snoc])
      obtain ⟨Q, hQ⟩ : ∃ Q, Mt.reg (4294967295 - sum) (s.data.toList.take k) = Q := ⟨_, rfl⟩
      have hQL : Q < 4294967296 := by rw [← hQ]; exact Mt.reg_lt HR0.out _
      rw [hQ] at HJ ⊢
      clear hQ
      have hc256 : (c.toNat : Int) < 256 := by have := c.toNat_lt; omega
      have hxor : bits BinOp.xor IntKind.u32 (Q : Int) (c.toNat : Int) = ((Q ^^^ c.toNat : Nat) : Int) := u32_xor_nat Q c.toNat hQL (by omega)
      obtain ⟨X, hX⟩ : ∃ X, Q ^^^ c.toNat = X := ⟨_, rfl⟩
      have HXL := Lib.hid (show X < 4294967296 by rw [← hX]; exact Mt.xor_byte_lt hQL c)
      rw [hX] at hxor
      have HX := Lib.hid hX
      clear hQL hX
      go_wp2_with fail
      go_loop [5, 7] (fun r i => ∃ j : Nat, j ≤ 8 ∧ i = .int .i64 j ∧ r = .int .u32 (Mt.sh j X)) (fun _ i => 8 - (intOf i).toNat)
      case atStart => exact ⟨0, by omega, rfl, rfl⟩
      case round =>
        obtain ⟨j, hj, rfl, rfl⟩ := hrel
        have hR := Mt.sh_lt HXL.out j
        have HS := Lib.hid (show Mt.sh (j + 1) X = Mt.sh1 (Mt.sh j X) from rfl)
        obtain ⟨R, hRe⟩ : ∃ R, Mt.sh j X = R := ⟨_, rfl⟩
        rw [hRe] at hR HS ⊢
        have HE := Lib.hid hRe
        clear hRe hxor
        have HP := Lib.hid (rpoly R hR)
        have HH := Lib.hid (rhalf R hR)
        clear hR
        by_cases hjl : j < 8
        · by_cases hodd : R % 2 = 1
          · have ho : ((R : Int) % 2 == 1) = true := by simp; omega
            have HO := Lib.hid hodd
            clear hodd
            go_wp2_with fail
            go_round
            case rel => exact ⟨j + 1, by omega, by go_num, by rw [HP.out, HS.out, Mt.sh1, if_pos HO.out]⟩
            case measure => simp [intOf]; omega
          · have ho : ((R : Int) % 2 == 1) = false := by simp; omega
            have HO := Lib.hid hodd
            clear hodd
            go_wp2_with fail
            go_round
            case rel => exact ⟨j + 1, by omega, by go_num, by rw [HS.out, Mt.sh1, if_neg HO.out, HH.out]⟩
            case measure => simp [intOf]; omega
        · obtain rfl : j = 8 := by omega
          go_wp2_with fail
          go_round
          case rel => exact ⟨k + 1, by omega, by go_num, by rw [HJ.out, Mt.by1, HX.out, HE.out]⟩
          case measure => simp [intOf]; omega
    · obtain rfl : k = s.size := by omega
      have HT := Lib.hid (show s.data.toList.take s.size = s.data.toList from List.take_of_length_le (Nat.le_refl _))
      go_wp2_with fail
      go_ret
      exact ⟨Mt.ret_int (by rw [HT.out]; exact H2.out _ (Mt.reg_lt HR0.out _)), rfl⟩

theorem rsum_any (s : ByteArray) (w : World) (hs : s.size ≤ 140737488351232) :
    Calls Tryz.prog 89 #[.string s] w fun e w' => e = .returned (.int .u32 (Mt.addS 0 s.data.toList)) ∧ w = w' := by
  have HA := Lib.hid (fun u => radd_any 0 s u (by omega) hs)
  go_enter Tryz.func89, Tryz.ntmps89
  go_wp2_with fail
  refine (HA.out _).mono ?_
  rintro e w' ⟨rfl, rfl⟩
  go_wp2_with fail
  go_ret
  exact ⟨rfl, rfl⟩

theorem cat_known : Mt.addS 0 (⟨#[49, 50, 51, 52, 53, 54, 55, 56, 57]⟩ : ByteArray).data.toList = 3421780262 := by decide +kernel
theorem cat_known2 : Mt.addS 0 (Mt.cat [⟨#[49, 50, 51, 52]⟩, ⟨#[53, 54, 55, 56, 57]⟩]) = 3421780262 := by decide +kernel

/-- Whether the joining gives up at a place. -/
def Far (ss : List ByteArray) (k : Nat) : Prop := 100 < ss.length ∨ 10000 < (ss.getD k ByteArray.empty).size ∨ 10000 < (Mt.cat (ss.take k)).length

end Go.Proofs.YtnioagojiipjlaaGreat
