/-
  Some texts of one proof, one behind the other.
-/
import Derived.Deep.LoopGhost
import Derived.Deep.AppendLies
import Derived.Deep.RegionHeld3
import Derived.Test.YtnioagojiipjlaaGreatPk0
import Derived.Test.YtnioagojiipjlaaGreatPk1
import Derived.Test.YtnioagojiipjlaaGreatPk2

/-
  What the calls crc.shift, Add and Sum, and the document's Add and Sum, come to.
-/
namespace Go.Proofs.YtnioagojiipjlaaGreat
open Go.RowKit

theorem shift_bits (R : Nat) (hR : R < 4294967296) : bits .and .u32 (R : Int) 1 = ((R % 2 : Nat) : Int) ∧ bits .xor .u32 ((R : Int) / 2) 3988292384 = ((R / 2 ^^^ 3988292384 : Nat) : Int) := by
  have h1 := u32_xor_nat (R / 2) 3988292384 (by omega) (by omega)
  have h2 := bits_mask .u32 32 (by decide) (fun n ha hb => by simp [IntKind.wrap, IntKind.bits, IntKind.signed]; omega) 1 (by decide) (R : Int) (by omega) (by simp; omega)
  exact ⟨by simpa using h2, by simpa using h1⟩

set_option maxRecDepth 100000 in
theorem shift_any (r : Nat) (w : World) (hr : r < 4294967296) : Calls Tryz.prog 133 #[.int .u32 r] w fun e w' => e = .returned (.int .u32 (Mt.sh 8 r)) ∧ w = w' := by
  go_enter Tryz.func133, Tryz.ntmps133
  go_wp2
  go_loop [0, 4] (fun v i => ∃ k : Nat, k ≤ 8 ∧ i = .int .i64 k ∧ v = .int .u32 (Mt.sh k r)) (fun _ i => 8 - (intOf i).toNat)
  case atStart => exact ⟨0, by omega, rfl, rfl⟩
  case round =>
    obtain ⟨k, hk, rfl, rfl⟩ := hrel
    have hR := Mt.sh_lt hr k
    have HS := Lib.hid (show Mt.sh (k + 1) r = Mt.sh1 (Mt.sh k r) from rfl)
    obtain ⟨R, hRe⟩ : ∃ R, Mt.sh k r = R := ⟨_, rfl⟩
    rw [hRe] at hR HS ⊢
    have HE := Lib.hid hRe
    clear hRe
    have hb := shift_bits R hR
    have HX := Lib.hid hb.2
    have HR := Lib.hid hR
    by_cases hlt : k < 8
    · by_cases hodd : R % 2 = 1
      · have hand : bits BinOp.and IntKind.u32 (R : Int) 1 = 1 := by rw [hb.1, hodd]; rfl
        have HO := Lib.hid hodd
        clear hb hodd hR
        go_wp2
        go_round
        case rel => exact ⟨k + 1, by omega, by go_num, by rw [HX.out, HS.out, Mt.sh1, if_pos HO.out]⟩
        case measure => simp [intOf]; omega
      · have hand : bits BinOp.and IntKind.u32 (R : Int) 1 = 0 := by rw [hb.1]; omega
        have HO := Lib.hid hodd
        clear hb hodd hR
        go_wp2
        go_round
        case rel => exact ⟨k + 1, by omega, by go_num, by rw [HS.out, Mt.sh1, if_neg HO.out]; rfl⟩
        case measure => simp [intOf]; omega
    · clear hb hR
      go_wp2
      go_ret
      obtain rfl : k = 8 := by omega
      exact ⟨Mt.ret_int (by rw [← HE.out]), rfl⟩

theorem turn_nat (x : Nat) (h : x < 4294967296) : 4294967295 ^^^ x = 4294967295 - x := by
  have e : (4294967295 : Nat) = 2 ^ 32 - 1 := by decide
  have h' : x < 2 ^ 32 := by simpa using h
  apply Nat.eq_of_testBit_eq
  intro i
  have h3 := Nat.testBit_two_pow_sub_succ h' i
  have e2 : 2 ^ 32 - 1 - x = 2 ^ 32 - (x + 1) := by omega
  rw [e, Nat.testBit_xor, Nat.testBit_two_pow_sub_one, e2, h3]
  by_cases hi : i < 32
  · simp [hi]
  · have : x.testBit i = false := Nat.testBit_lt_two_pow (Nat.lt_of_lt_of_le h' (Nat.pow_le_pow_right (by decide) (by omega)))
    simp [hi, this]
theorem turn_all (x : Nat) (h : x < 4294967296) : bits .xor .u32 IntKind.u32.max (x : Int) = ((4294967295 - x : Nat) : Int) := by
  have h1 := u32_xor_nat 4294967295 x (by omega) h
  have e : IntKind.u32.max = ((4294967295 : Nat) : Int) := by decide
  rw [← turn_nat x h, e, h1]

set_option maxRecDepth 100000 in
theorem add_nil (sum : Nat) (a : Option Addr) (cap : Nat) (w : World) (h : sum < 4294967296) :
    Calls Tryz.prog 121 #[.int .u32 sum, .slice a 0 cap] w fun e w' => e = .returned (.int .u32 sum) ∧ w = w' := by
  have H1 := Lib.hid (turn_all sum h)
  have H2 := Lib.hid (turn_all (4294967295 - sum) (by omega))
  go_enter Tryz.func121, Tryz.ntmps121
  go_wp2
  refine wp_loop_rounds 1 ?_
  rw [rounds_succ]
  go_wp2
  go_ret
  exact ⟨Mt.ret_int (by rw [H1.out, H2.out]; omega), rfl⟩

set_option maxHeartbeats 800000 in
set_option maxRecDepth 100000 in
theorem add_some (sum : Nat) (b off cap : Nat) (ss : List ByteArray) (w : World) (h : sum < 4294967296) (hn : ss.length ≤ 9223372036854775807) (hs : ∀ p ∈ ss, p.size ≤ 9223372036854775807)
    (hc : ∀ i (hi : i < ss.length), w.cell? ⟨b, off + i, none⟩ = some (.string ss[i])) :
    Calls Tryz.prog 121 #[.int .u32 sum, .slice (some ⟨b, off, none⟩) ss.length cap] w fun e w' => e = .returned (.int .u32 (Mt.addS sum (Mt.cat ss))) ∧ w = w' := by
  have HC := Lib.hid hc
  have HN := Lib.hid hs
  have H1 := Lib.hid (turn_all sum h)
  have H2 := Lib.hid (fun r (hr : r < 4294967296) => turn_all r hr)
  have HR0 := Lib.hid (show 4294967295 - sum < 4294967296 by omega)
  obtain ⟨n, hne⟩ : ∃ n, ss.length = n := ⟨_, rfl⟩
  have HNE := Lib.hid hne
  rw [hne] at hn ⊢
  clear hc hs hne h
  go_enter Tryz.func121, Tryz.ntmps121
  go_wp2
  rw [H1.out]
  go_loop [5, 13] (fun r i => ∃ k : Nat, k ≤ n ∧ i = .int .i64 k ∧ r = .int .u32 (Mt.reg (4294967295 - sum) (Mt.cat (ss.take k)))) (fun _ i => n - (intOf i).toNat)
  case atStart => exact ⟨0, Nat.zero_le _, rfl, rfl⟩
  case round =>
    obtain ⟨k, hk, rfl, rfl⟩ := hrel
    by_cases hlt : k < n
    · have hkl : k < ss.length := by have := HNE.out; omega
      obtain ⟨p, hp⟩ : ∃ p, ss[k] = p := ⟨_, rfl⟩
      have hcell : w.cell? ⟨b, off + k, none⟩ = some (.string p) := by rw [← hp]; exact HC.out k hkl
      have hps : p.size ≤ 9223372036854775807 := HN.out p (by rw [← hp]; exact List.getElem_mem hkl)
      have HCAT := Lib.hid (show Mt.cat (ss.take (k + 1)) = Mt.cat (ss.take k) ++ p.data.toList by rw [Mt.cat_snoc ss k hkl, hp])
      obtain ⟨R, hR⟩ : ∃ R, Mt.reg (4294967295 - sum) (Mt.cat (ss.take k)) = R := ⟨_, rfl⟩
      have HRL := Lib.hid (show R < 4294967296 by rw [← hR]; exact Mt.reg_lt HR0.out _)
      rw [hR]
      have HR := Lib.hid hR
      clear hp hR
      go_wp2_with fail
      go_loop [5, 19] (fun r i => ∃ j : Nat, j ≤ p.size ∧ i = .int .i64 j ∧ r = .int .u32 (Mt.reg R (p.data.toList.take j))) (fun _ i => p.size - (intOf i).toNat)
      case atStart => exact ⟨0, Nat.zero_le _, rfl, rfl⟩
      case round =>
        obtain ⟨j, hj, rfl, rfl⟩ := hrel
        by_cases hjl : j < p.size
        · obtain ⟨c, hcc⟩ : ∃ c, p[j] = c := ⟨_, rfl⟩
          have HJ := Lib.hid (show Mt.reg R (p.data.toList.take (j + 1)) = Mt.by1 (Mt.reg R (p.data.toList.take j)) c by rw [Mt.take_snoc p j hjl, hcc, Mt.reg_snoc])
          obtain ⟨Q, hQ⟩ : ∃ Q, Mt.reg R (p.data.toList.take j) = Q := ⟨_, rfl⟩
          have hQL : Q < 4294967296 := by rw [← hQ]; exact Mt.reg_lt HRL.out _
          rw [hQ] at HJ ⊢
          clear hQ
          have hc256 : (c.toNat : Int) < 256 := by have := c.toNat_lt; omega
          have hxor : bits BinOp.xor IntKind.u32 (Q : Int) (c.toNat : Int) = ((Q ^^^ c.toNat : Nat) : Int) := u32_xor_nat Q c.toNat hQL (by omega)
          have HSH := Lib.hid (fun u => shift_any (Q ^^^ c.toNat) u (Mt.xor_byte_lt hQL c))
          clear hQL
          go_wp2_with fail
          refine (HSH.out _).mono ?_
          rintro e w' ⟨rfl, rfl⟩
          go_wp2_with fail
          go_round
          case rel => exact ⟨j + 1, by omega, by go_num, by rw [HJ.out]; rfl⟩
          case measure => simp [intOf]; omega
        · obtain rfl : j = p.size := by omega
          have HT := Lib.hid (show p.data.toList.take p.size = p.data.toList from List.take_of_length_le (Nat.le_refl _))
          go_wp2_with fail
          go_round
          case rel => exact ⟨k + 1, by omega, by go_num, by rw [HCAT.out, Mt.reg_append, HR.out, HT.out]⟩
          case measure => simp [intOf]; omega
    · obtain rfl : k = n := by omega
      have HT := Lib.hid (show ss.take k = ss from List.take_of_length_le (by have := HNE.out; omega))
      go_wp2_with fail
      go_ret
      exact ⟨Mt.ret_int (by rw [HT.out, H2.out _ (Mt.reg_lt HR0.out _)]; rfl), rfl⟩

end Go.Proofs.YtnioagojiipjlaaGreat

/-
  What crc.Sum comes to.
-/
namespace Go.Proofs.YtnioagojiipjlaaGreat
open Go.RowKit

theorem sum_nil (a : Option Addr) (cap : Nat) (w : World) : Calls Tryz.prog 103 #[.slice a 0 cap] w fun e w' => e = .returned (.int .u32 (Mt.addS 0 [])) ∧ w = w' := by
  have HA := Lib.hid (fun u => add_nil 0 a cap u (by omega))
  go_enter Tryz.func103, Tryz.ntmps103
  go_wp2_with fail
  refine (HA.out _).mono ?_
  rintro e w' ⟨rfl, rfl⟩
  go_wp2_with fail
  go_ret
  exact ⟨rfl, rfl⟩

theorem sum_some (b off cap : Nat) (ss : List ByteArray) (w : World) (hn : ss.length ≤ 9223372036854775807) (hs : ∀ p ∈ ss, p.size ≤ 9223372036854775807)
    (hc : ∀ i (hi : i < ss.length), w.cell? ⟨b, off + i, none⟩ = some (.string ss[i])) :
    Calls Tryz.prog 103 #[.slice (some ⟨b, off, none⟩) ss.length cap] w fun e w' => e = .returned (.int .u32 (Mt.addS 0 (Mt.cat ss))) ∧ w = w' := by
  have HA := Lib.hid (add_some 0 b off cap ss w (by omega) hn hs hc)
  clear hn hs hc
  go_enter Tryz.func103, Tryz.ntmps103
  go_wp2_with fail
  refine (HA.out).mono ?_
  rintro e w' ⟨rfl, rfl⟩
  go_wp2_with fail
  go_ret
  exact ⟨rfl, rfl⟩

/-- Sum of one text that was just laid. -/
theorem sum_one (s : ByteArray) (B : Nat) (w : World) (hB : B = w.heap.size) (hs : s.size ≤ 9223372036854775807) :
    Calls Tryz.prog 103 #[.slice (some ⟨B, 0, none⟩) 1 1] (w.alloc (.cells #[.string s] 9)) fun e w' => e = .returned (.int .u32 (Mt.addS 0 s.data.toList)) ∧ (w.alloc (.cells #[.string s] 9)) = w' := by
  subst hB
  have h := sum_some w.heap.size 0 1 [s] (w.alloc (.cells #[.string s] 9)) (by simp) (by simpa using hs) (fun i hi => by
    obtain rfl : i = 0 := by simpa using hi
    exact cell_one_new w (.string s) 9 0 (.string s) rfl)
  have e : Mt.cat [s] = s.data.toList := by simp [Mt.cat]
  rwa [e] at h
theorem cell_two (w : World) (x y : Value) (t : TypeId) (i : Nat) (hi : i < 2) : (w.alloc (.cells #[x, y] t)).cell? ⟨w.heap.size, 0 + i, none⟩ = some ([x, y][i]'hi) := by
  have h := World.news_of_block (w := w.alloc (.cells #[x, y] t)) (B := w.heap.size) (cs := #[x, y]) (t := t) (fr := (0, 0)) (heap_alloc_new w _) i ([x, y][i]'hi) (by
    match i, hi with
    | 0, _ => rfl
    | 1, _ => rfl)
  have e : (⟨w.heap.size, 0, none⟩ : Addr).add i = ⟨w.heap.size, 0 + i, none⟩ := by unfold Addr.add; split <;> simp_all
  rwa [e] at h
theorem sum_two (s t : ByteArray) (B : Nat) (w : World) (hB : B = w.heap.size) (hs : s.size ≤ 9223372036854775807) (ht : t.size ≤ 9223372036854775807) :
    Calls Tryz.prog 103 #[.slice (some ⟨B, 0, none⟩) 2 2] (w.alloc (.cells #[.string s, .string t] 9)) fun e w' => e = .returned (.int .u32 (Mt.addS 0 (Mt.cat [s, t]))) ∧ (w.alloc (.cells #[.string s, .string t] 9)) = w' := by
  subst hB
  exact sum_some w.heap.size 0 2 [s, t] (w.alloc (.cells #[.string s, .string t] 9)) (by simp) (by simp; exact ⟨hs, ht⟩) (fun i hi => by
    rw [cell_two w _ _ _ i hi]
    match i, hi with
    | 0, _ => rfl
    | 1, _ => rfl)

end Go.Proofs.YtnioagojiipjlaaGreat

/-
  What the journal's sectors come to: seal, a cell's and a head's bytes.
-/
namespace Go.Proofs.YtnioagojiipjlaaGreat
open Go.RowKit

theorem Tryz.repX : Builder.Extra Tryz.prog Tryz.repA_ren where
  sizeBuilder := by kernel_rfl
  liesBuilder := by kernel_rfl
  t5 := Tryz.underlying5
  a5 := Tryz.isAgg5
  z5 := Tryz.sizeOf5
  v5 := Tryz.zeroValue5
  infoByte := by kernel_rfl
  cellsByte := by kernel_rfl
  sizeByte := by kernel_rfl
  neB5 := by decide
theorem Mt.rep_one (x : UInt8) : ∀ n, Lib.repeatL [x] n = List.replicate n x
  | 0 => rfl
  | n + 1 => by
    have := Mt.rep_one x n
    simp [Lib.repeatL, List.replicate_succ] at this ⊢
    try exact this
theorem rep_any (n : Nat) (w : World) (hn : n ≤ 1000) : Calls Tryz.prog 102 #[.string ⟨#[0]⟩, .int .i64 n] w fun e w' => e = .returned (.string (Mt.str (List.replicate n 0))) ∧ Below w.heap.size w w' := by
  have h := Any.strings_Repeat Tryz.repA Tryz.repX ⟨#[0]⟩ n w (by omega) (by have : (ByteArray.mk #[0]).size = 1 := rfl; rw [this]; omega)
  have e : (ByteArray.mk #[0]).data.toList = [0] := rfl
  rw [e, Mt.rep_one] at h
  exact h
/-- Texts behind each other. -/
theorem Mt.str_append (a b : List UInt8) : Mt.str a ++ Mt.str b = Mt.str (a ++ b) := by
  apply ByteArray.ext
  simp [Mt.str]
theorem putb_any (n size : Nat) (w : World) (h1 : 1 ≤ size) (h2 : size ≤ 8) : Calls Tryz.prog 94 #[.int .u64 n, .int .i64 size] w fun e w' => e = .returned (.string (Mt.str (Mt.bb n size))) ∧ Below w.heap.size w w' := put_yes n size w h1 h2
set_option maxRecDepth 100000 in
theorem seal_any (l : List UInt8) (w : World) (hl : l.length ≤ 124) : Calls Tryz.prog 93 #[.string (Mt.str l)] w fun e w' => e = .returned (.string (Mt.str (Mt.sealL l))) ∧ Below w.heap.size w w' := by
  have HREP := Lib.hid (fun u => rep_any (124 - l.length) u (by omega))
  have HL := Lib.hid (Mt.filled_length l hl)
  have HF := Lib.hid (show Mt.str l ++ Mt.str (List.replicate (124 - l.length) 0) = Mt.str (Mt.filled l) from Mt.str_append _ _)
  have HS : Hid (∀ (B : Nat) (u : World), B = u.heap.size → Calls Tryz.prog 103 #[.slice (some ⟨B, 0, none⟩) 1 1] (u.alloc (.cells #[.string (Mt.str (Mt.filled l))] 9)) fun e w' => e = .returned (.int .u32 ((Mt.addS 0 (Mt.filled l) : Nat) : Int)) ∧ (u.alloc (.cells #[.string (Mt.str (Mt.filled l))] 9)) = w') := Lib.hid (fun B u hB => sum_one (Mt.str (Mt.filled l)) B u hB (by rw [Mt.str_size, Mt.filled_length l hl]; omega))
  have HP := Lib.hid (fun u => putb_any (Mt.addS 0 (Mt.filled l)) 4 u (by omega) (by omega))
  have HQ := Lib.hid (show Mt.str (Mt.bb (Mt.addS 0 (Mt.filled l)) 4) ++ Mt.str (Mt.filled l) = Mt.str (Mt.sealL l) from Mt.str_append _ _)
  have hz := Mt.str_size l
  have hn : ((124 : Int) - (l.length : Int)) = ((124 - l.length : Nat) : Int) := by omega
  have HZ := Lib.hid hz
  have HN := Lib.hid hn
  have HLT := Lib.hid (Mt.addS_lt 0 (Mt.filled l))
  have hls : (Mt.str l).size ≤ 124 := by rw [hz]; exact hl
  clear hz hn hl
  have hd124 : (124 : Int) - ((Mt.str l).size : Int) = (124 : Int) - (l.length : Int) := by rw [HZ.out]
  have HD := Lib.hid hd124
  clear hd124
  go_enter Tryz.func93, Tryz.ntmps93
  go_wp2_with fail
  rw [HD.out, HN.out]
  refine (HREP.out _).mono ?_
  rintro e w1 ⟨rfl, hb1⟩
  have HB1 := Lib.hid hb1
  have hrs : (Mt.str (List.replicate (124 - l.length) 0)).size ≤ 124 := by rw [Mt.str_size, List.length_replicate]; omega
  clear hb1
  go_wp2_with fail
  rw [HF.out]
  refine (HS.out _ _ rfl).mono ?_
  rintro e w2 ⟨rfl, rfl⟩
  have hfs : (Mt.str (Mt.filled l)).size ≤ 124 := by rw [Mt.str_size, HL.out]; omega
  have HB2 := Lib.hid (HB1.out.alloc HB1.out.size (.cells #[.string (Mt.str (Mt.filled l))] 9))
  have hw : IntKind.u64.wrap ((Mt.addS 0 (Mt.filled l) : Nat) : Int) = ((Mt.addS 0 (Mt.filled l) : Nat) : Int) := by
    have := HLT.out
    simp [IntKind.wrap, IntKind.bits, IntKind.signed]; omega
  go_wp2_with fail
  refine (HP.out _).mono ?_
  rintro e w3 ⟨rfl, hb3⟩
  have HB3 := Lib.hid (HB2.out.trans (hb3.mono HB2.out.size))
  have hps : (Mt.str (Mt.bb (Mt.addS 0 (Mt.filled l)) 4)).size ≤ 4 := by rw [Mt.str_size, Mt.bb_length]; omega
  clear hb3 hw
  go_wp2_with fail
  rw [HQ.out]
  go_ret
  exact ⟨rfl, HB3.out⟩
end Go.Proofs.YtnioagojiipjlaaGreat

/-
  A cell's and a head's bytes.
-/
namespace Go.Proofs.YtnioagojiipjlaaGreat
open Go.RowKit

theorem Mt.u64_nat (n : Nat) (h : n < 18446744073709551616) : IntKind.u64.wrap (n : Int) = (n : Int) := by
  simp [IntKind.wrap, IntKind.bits, IntKind.signed]; omega
set_option maxRecDepth 100000 in
set_option maxHeartbeats 1000000 in
theorem csector_any (c : Mt.Cl) (hf : c.Fits) (w : World) : Calls Tryz.prog 79 #[.agg (clV c)] w fun e w' => e = .returned (.string (Mt.str c.sector)) ∧ Below w.heap.size w w' := by
  have HSEAL := Lib.hid (fun u => seal_any c.front u (by rw [Mt.Cl.front_length]; have := hf.body; omega))
  have HFR := Lib.hid (show Mt.str c.front = (⟨#[67]⟩ : ByteArray) ++ Mt.str (Mt.bb c.gen 4) ++ Mt.str (Mt.bb c.number 4) ++ Mt.str (Mt.bb c.part 2) ++ Mt.str (Mt.bb c.parts 2) ++ Mt.str (Mt.bb c.body.length 1) ++ Mt.str c.body by
    apply ByteArray.ext; apply Array.ext'; simp [Mt.str, Mt.Cl.front])
  have HFL := Lib.hid (show (Mt.str c.front).size ≤ 124 by rw [Mt.str_size, Mt.Cl.front_length]; have := hf.body; omega)
  have HSX := Lib.hid (show Mt.sealL c.front = c.sector from rfl)
  obtain ⟨g, n, p, q, b⟩ := c
  obtain ⟨h1, h2, h3, h4, h5⟩ := hf
  simp only at h1 h2 h3 h4 h5 HSEAL HFR HFL HSX
  generalize (Mt.Cl.mk g n p q b).front = F at *
  unfold clV
  simp only
  generalize (Mt.Cl.mk g n p q b).sector = R at *
  rw [HSX.out] at HSEAL
  clear HSX
  have HP1 : Hid (∀ u, Calls Tryz.prog 94 #[.int .u64 (g : Int), .int .i64 4] u fun e w' => e = .returned (.string (Mt.str (Mt.bb g 4))) ∧ Below u.heap.size u w') := Lib.hid (fun u => putb_any g 4 u (by omega) (by omega))
  have HP2 : Hid (∀ u, Calls Tryz.prog 94 #[.int .u64 (n : Int), .int .i64 4] u fun e w' => e = .returned (.string (Mt.str (Mt.bb n 4))) ∧ Below u.heap.size u w') := Lib.hid (fun u => putb_any n 4 u (by omega) (by omega))
  have HP3 : Hid (∀ u, Calls Tryz.prog 94 #[.int .u64 (p : Int), .int .i64 2] u fun e w' => e = .returned (.string (Mt.str (Mt.bb p 2))) ∧ Below u.heap.size u w') := Lib.hid (fun u => putb_any p 2 u (by omega) (by omega))
  have HP4 : Hid (∀ u, Calls Tryz.prog 94 #[.int .u64 (q : Int), .int .i64 2] u fun e w' => e = .returned (.string (Mt.str (Mt.bb q 2))) ∧ Below u.heap.size u w') := Lib.hid (fun u => putb_any q 2 u (by omega) (by omega))
  have HP5 : Hid (∀ u, Calls Tryz.prog 94 #[.int .u64 (b.length : Int), .int .i64 1] u fun e w' => e = .returned (.string (Mt.str (Mt.bb b.length 1))) ∧ Below u.heap.size u w') := Lib.hid (fun u => putb_any b.length 1 u (by omega) (by omega))
  have w3 := Mt.u64_nat p (by omega)
  have w4 := Mt.u64_nat q (by omega)
  have w5 := Mt.u64_nat b.length (by omega)
  have z1 : (Mt.str (Mt.bb g 4)).size = 4 := by rw [Mt.str_size, Mt.bb_length]
  have z2 : (Mt.str (Mt.bb n 4)).size = 4 := by rw [Mt.str_size, Mt.bb_length]
  have z3 : (Mt.str (Mt.bb p 2)).size = 2 := by rw [Mt.str_size, Mt.bb_length]
  have z4 : (Mt.str (Mt.bb q 2)).size = 2 := by rw [Mt.str_size, Mt.bb_length]
  have z5 : (Mt.str (Mt.bb b.length 1)).size = 1 := by rw [Mt.str_size, Mt.bb_length]
  have z6 : (Mt.str b).size = b.length := Mt.str_size b
  generalize Mt.str (Mt.bb g 4) = P1 at *
  generalize Mt.str (Mt.bb n 4) = P2 at *
  generalize Mt.str (Mt.bb p 2) = P3 at *
  generalize Mt.str (Mt.bb q 2) = P4 at *
  generalize Mt.str (Mt.bb b.length 1) = P5 at *
  generalize Mt.str b = P6 at *
  have z0 : (⟨#[67]⟩ : ByteArray).size = 1 := rfl
  obtain ⟨S1, e1⟩ : ∃ S, (⟨#[67]⟩ : ByteArray) ++ P1 = S := ⟨_, rfl⟩
  obtain ⟨S2, e2⟩ : ∃ S, S1 ++ P2 = S := ⟨_, rfl⟩
  obtain ⟨S3, e3⟩ : ∃ S, S2 ++ P3 = S := ⟨_, rfl⟩
  obtain ⟨S4, e4⟩ : ∃ S, S3 ++ P4 = S := ⟨_, rfl⟩
  obtain ⟨S5, e5⟩ : ∃ S, S4 ++ P5 = S := ⟨_, rfl⟩
  have e6 : S5 ++ P6 = Mt.str F := by rw [HFR.out, ← e5, ← e4, ← e3, ← e2, ← e1]
  have y1 : S1.size ≤ 124 := by rw [← e1, ByteArray.size_append]; omega
  have y2 : S2.size ≤ 124 := by rw [← e2, ← e1]; simp only [ByteArray.size_append]; omega
  have y3 : S3.size ≤ 124 := by rw [← e3, ← e2, ← e1]; simp only [ByteArray.size_append]; omega
  have y4 : S4.size ≤ 124 := by rw [← e4, ← e3, ← e2, ← e1]; simp only [ByteArray.size_append]; omega
  have y5 : S5.size ≤ 124 := by rw [← e5, ← e4, ← e3, ← e2, ← e1]; simp only [ByteArray.size_append]; omega
  have x1 : P1.size ≤ 124 := by omega
  have x2 : P2.size ≤ 124 := by omega
  have x3 : P3.size ≤ 124 := by omega
  have x4 : P4.size ≤ 124 := by omega
  have x5 : P5.size ≤ 124 := by omega
  have x6 : P6.size ≤ 124 := by omega
  have t1 : ¬ (9223372036854775807 < 1 + P1.size) := by omega
  have t2 : ¬ (9223372036854775807 < S1.size + P2.size) := by omega
  have t3 : ¬ (9223372036854775807 < S2.size + P3.size) := by omega
  have t4 : ¬ (9223372036854775807 < S3.size + P4.size) := by omega
  have t5 : ¬ (9223372036854775807 < S4.size + P5.size) := by omega
  have t6 : ¬ (9223372036854775807 < S5.size + P6.size) := by omega
  have l6 : (P6.size : Int) = (b.length : Int) := by omega
  clear z0 z1 z2 z3 z4 z5 HFR z6 h1 h2 h3 h4 h5 x1 x2 x3 x4 x5 x6 y1 y2 y3 y4 y5
  have HA := Lib.hid ((Below.refl w.heap.size w).alloc (Nat.le_refl _) (.cells #[.int .u64 (g : Int), .int .u64 (n : Int), .int .i64 (p : Int), .int .i64 (q : Int), .string P6] 106))
  have HC := Lib.hid (fun u (hu : Below (w.alloc (.cells #[.int .u64 (g : Int), .int .u64 (n : Int), .int .i64 (p : Int), .int .i64 (q : Int), .string P6] 106)).heap.size (w.alloc (.cells #[.int .u64 (g : Int), .int .u64 (n : Int), .int .i64 (p : Int), .int .i64 (q : Int), .string P6] 106)) u) => box5_of (alloc5 w _ _ _ _ _ _ u hu))
  have HK := Lib.hid ((Below.refl (w.alloc (.cells #[.int .u64 (g : Int), .int .u64 (n : Int), .int .i64 (p : Int), .int .i64 (q : Int), .string P6] 106)).heap.size (w.alloc (.cells #[.int .u64 (g : Int), .int .u64 (n : Int), .int .i64 (p : Int), .int .i64 (q : Int), .string P6] 106))).drew)
  obtain ⟨c0, c1, c2, c3, c4⟩ := HC.out _ (Below.refl _ _)
  go_enter Tryz.func79, Tryz.ntmps79
  go_upto_region 1 with fail
  go_region_held3 (fun w' => w'.cell? ⟨w.heap.size, 0, none⟩ = some (.int .u64 (g : Int)) ∧ w'.cell? ⟨w.heap.size, 1, none⟩ = some (.int .u64 (n : Int)) ∧ w'.cell? ⟨w.heap.size, 2, none⟩ = some (.int .i64 (p : Int)) ∧ w'.cell? ⟨w.heap.size, 3, none⟩ = some (.int .i64 (q : Int)) ∧ w'.cell? ⟨w.heap.size, 4, none⟩ = some (.string P6))
    (first
      | go_keep
      | exact qq)
    (first
      | (go_at_call 94; (with_reducible refine (HP1.out _).mono ?_); rintro e w2 ⟨rfl, hb⟩; have HK := Lib.hid (HK.out.trans (hb.mono HK.out.size)); have qq := HC.out _ HK.out; clear hb)
      | (go_at_call 94; (with_reducible refine (HP2.out _).mono ?_); rintro e w2 ⟨rfl, hb⟩; have HK := Lib.hid (HK.out.trans (hb.mono HK.out.size)); have qq := HC.out _ HK.out; clear hb)
      | (go_at_call 94; (with_reducible refine (HP3.out _).mono ?_); rintro e w2 ⟨rfl, hb⟩; have HK := Lib.hid (HK.out.trans (hb.mono HK.out.size)); have qq := HC.out _ HK.out; clear hb)
      | (go_at_call 94; (with_reducible refine (HP4.out _).mono ?_); rintro e w2 ⟨rfl, hb⟩; have HK := Lib.hid (HK.out.trans (hb.mono HK.out.size)); have qq := HC.out _ HK.out; clear hb)
      | (go_at_call 94; (with_reducible refine (HP5.out _).mono ?_); rintro e w2 ⟨rfl, hb⟩; have HK := Lib.hid (HK.out.trans (hb.mono HK.out.size)); have qq := HC.out _ HK.out; clear hb)
      | (go_at_call 93; (with_reducible refine (HSEAL.out _).mono ?_); rintro e w2 ⟨rfl, hb⟩; have HK := Lib.hid (HK.out.trans (hb.mono HK.out.size)); have qq := HC.out _ HK.out; clear hb))
  go_wp2_with fail
  go_ret
  exact ⟨rfl, HA.out.trans (HK.out.mono HA.out.size)⟩
end Go.Proofs.YtnioagojiipjlaaGreat

/-
  A head's bytes; what readHead comes to.
-/
namespace Go.Proofs.YtnioagojiipjlaaGreat
open Go.RowKit

/-- A head as a value. -/
def hdV (h : Nat × Nat) : Array Value := #[.int .u64 (h.1 : Int), .int .i64 (h.2 : Int)]
theorem marked_no (s : ByteArray) (m : UInt8) (w : World) (h : ¬ (s.size = 128 ∧ s.data.toList.getD 4 0 = m)) : Calls Tryz.prog 82 #[.string s, .string ⟨#[m]⟩] w fun e w' => e = .returned (.bool false) ∧ w = w' := by
  by_cases hs : s.size = 128
  · have := marked_any s m w hs
    rwa [decide_eq_false (fun e => h ⟨hs, e⟩)] at this
  · exact marked_short s m w hs
theorem marked_yes (s : ByteArray) (m : UInt8) (w : World) (h : s.size = 128) (h2 : s.data.toList.getD 4 0 = m) : Calls Tryz.prog 82 #[.string s, .string ⟨#[m]⟩] w fun e w' => e = .returned (.bool true) ∧ w = w' := by
  have := marked_any s m w h
  rwa [decide_eq_true h2] at this
theorem hbox_of {w : World} {b : Nat} {x y : Value} {T : TypeId} {fr : Nat × Nat} (h : w.heap[b]? = some (.cells #[x, y] T fr)) : w.cell? ⟨b, 0, none⟩ = some x ∧ w.cell? ⟨b, 1, none⟩ = some y := by
  simp [World.cell?, h]
theorem alloc2 (w : World) (x y : Value) (T : TypeId) : ∀ u', Below (w.alloc (.cells #[x, y] T)).heap.size (w.alloc (.cells #[x, y] T)) u' → u'.heap[w.heap.size]? = some (.cells #[x, y] T (0, 0)) :=
  fun u' hb => (hb.block _ (by simp)).trans (heap_alloc_new w _)

set_option maxRecDepth 100000 in
set_option maxHeartbeats 1000000 in
theorem hsector_any (g k : Nat) (hg : g < 4294967296) (hk : k < 256) (w : World) : Calls Tryz.prog 84 #[.agg (hdV (g, k))] w fun e w' => e = .returned (.string (Mt.str (Mt.hdSector g k))) ∧ Below w.heap.size w w' := by
  have HSEAL : Hid (∀ u, Calls Tryz.prog 93 #[.string (Mt.str ([72] ++ (Mt.bb g 4 ++ Mt.bb k 1)))] u fun e w' => e = .returned (.string (Mt.str (Mt.hdSector g k))) ∧ Below u.heap.size u w') := Lib.hid (fun u => seal_any ([72] ++ (Mt.bb g 4 ++ Mt.bb k 1)) u (by simp [Mt.bb_length]))
  have HFR := Lib.hid (show Mt.str ([72] ++ (Mt.bb g 4 ++ Mt.bb k 1)) = (⟨#[72]⟩ : ByteArray) ++ Mt.str (Mt.bb g 4) ++ Mt.str (Mt.bb k 1) by
    apply ByteArray.ext; apply Array.ext'; simp [Mt.str])
  generalize Mt.str ([72] ++ (Mt.bb g 4 ++ Mt.bb k 1)) = F at *
  generalize Mt.str (Mt.hdSector g k) = R at *
  have HP1 : Hid (∀ u, Calls Tryz.prog 94 #[.int .u64 (g : Int), .int .i64 4] u fun e w' => e = .returned (.string (Mt.str (Mt.bb g 4))) ∧ Below u.heap.size u w') := Lib.hid (fun u => putb_any g 4 u (by omega) (by omega))
  have HP2 : Hid (∀ u, Calls Tryz.prog 94 #[.int .u64 (k : Int), .int .i64 1] u fun e w' => e = .returned (.string (Mt.str (Mt.bb k 1))) ∧ Below u.heap.size u w') := Lib.hid (fun u => putb_any k 1 u (by omega) (by omega))
  have w2 := Mt.u64_nat k (by omega)
  have z1 : (Mt.str (Mt.bb g 4)).size = 4 := by rw [Mt.str_size, Mt.bb_length]
  have z2 : (Mt.str (Mt.bb k 1)).size = 1 := by rw [Mt.str_size, Mt.bb_length]
  generalize Mt.str (Mt.bb g 4) = P1 at *
  generalize Mt.str (Mt.bb k 1) = P2 at *
  have z0 : (⟨#[72]⟩ : ByteArray).size = 1 := rfl
  obtain ⟨S1, e1⟩ : ∃ S, (⟨#[72]⟩ : ByteArray) ++ P1 = S := ⟨_, rfl⟩
  have e2 : S1 ++ P2 = F := by rw [HFR.out, ← e1]
  have y1 : S1.size ≤ 124 := by rw [← e1, ByteArray.size_append]; omega
  have t1 : ¬ (9223372036854775807 < 1 + P1.size) := by omega
  have t2 : ¬ (9223372036854775807 < S1.size + P2.size) := by omega
  clear z0 z1 z2 HFR y1 hg hk
  have HA := Lib.hid ((Below.refl w.heap.size w).alloc (Nat.le_refl _) (.cells #[.int .u64 (g : Int), .int .i64 (k : Int)] 102))
  have HC := Lib.hid (fun u (hu : Below (w.alloc (.cells #[.int .u64 (g : Int), .int .i64 (k : Int)] 102)).heap.size (w.alloc (.cells #[.int .u64 (g : Int), .int .i64 (k : Int)] 102)) u) => hbox_of (alloc2 w _ _ _ u hu))
  have HK := Lib.hid ((Below.refl (w.alloc (.cells #[.int .u64 (g : Int), .int .i64 (k : Int)] 102)).heap.size (w.alloc (.cells #[.int .u64 (g : Int), .int .i64 (k : Int)] 102))).drew)
  obtain ⟨c0, c1⟩ := HC.out _ (Below.refl _ _)
  unfold hdV
  simp only
  go_enter Tryz.func84, Tryz.ntmps84
  go_upto_region 1 with fail
  go_region_held3 (fun w' => w'.cell? ⟨w.heap.size, 0, none⟩ = some (.int .u64 (g : Int)) ∧ w'.cell? ⟨w.heap.size, 1, none⟩ = some (.int .i64 (k : Int)))
    (first
      | go_keep
      | exact qq)
    (first
      | (go_at_call 94; (with_reducible refine (HP1.out _).mono ?_); rintro e w2 ⟨rfl, hb⟩; have HK := Lib.hid (HK.out.trans (hb.mono HK.out.size)); have qq := HC.out _ HK.out; clear hb)
      | (go_at_call 94; (with_reducible refine (HP2.out _).mono ?_); rintro e w2 ⟨rfl, hb⟩; have HK := Lib.hid (HK.out.trans (hb.mono HK.out.size)); have qq := HC.out _ HK.out; clear hb)
      | (go_at_call 93; (with_reducible refine (HSEAL.out _).mono ?_); rintro e w2 ⟨rfl, hb⟩; have HK := Lib.hid (HK.out.trans (hb.mono HK.out.size)); have qq := HC.out _ HK.out; clear hb))
  go_wp2_with fail
  go_ret
  exact ⟨rfl, HA.out.trans (HK.out.mono HA.out.size)⟩
end Go.Proofs.YtnioagojiipjlaaGreat

/-
  What the document's Add and Sum, the joining of parts, and the chapter's examples come to.
-/
namespace Go.Proofs.YtnioagojiipjlaaGreat
open Go.RowKit

theorem rhalf (R : Nat) (hR : R < 4294967296) : (R : Int) / 2 % 4294967296 = ((R / 2 : Nat) : Int) := by omega
theorem rpoly (R : Nat) (hR : R < 4294967296) : bits .xor .u32 ((R : Int) / 2 % 4294967296) 3988292384 = ((R / 2 ^^^ 3988292384 : Nat) : Int) := by
  rw [rhalf R hR, ← (shift_bits R hR).2]; rfl

theorem wrap_full (x : Nat) (h : x < 4294967296) : (4294967295 - (x : Int)) % 4294967296 = ((4294967295 - x : Nat) : Int) := by omega

set_option maxHeartbeats 800000 in
set_option maxRecDepth 100000 in
theorem radd_any (sum : Nat) (s : ByteArray) (w : World) (h : sum < 4294967296) (hs : s.size ≤ 140737488351232) :
    Calls Tryz.prog 98 #[.int .u32 sum, .string s] w fun e w' => e = .returned (.int .u32 (Mt.addS sum s.data.toList)) ∧ w = w' := by
  have H1 := Lib.hid (wrap_full sum h)
  have H2 := Lib.hid (fun r (hr : r < 4294967296) => wrap_full r hr)
  have HR0 := Lib.hid (show 4294967295 - sum < 4294967296 by omega)
  clear h
  go_enter Tryz.func98, Tryz.ntmps98
  go_wp2
  rw [H1.out]
  go_loop [5, 6] (fun r i => ∃ k : Nat, k ≤ s.size ∧ i = .int .i64 k ∧ r = .int .u32 (Mt.reg (4294967295 - sum) (s.data.toList.take k))) (fun _ i => s.size - (intOf i).toNat)
  case atStart => exact ⟨0, Nat.zero_le _, rfl, rfl⟩
  case round =>
    obtain ⟨k, hk, rfl, rfl⟩ := hrel
    by_cases hlt : k < s.size
    · obtain ⟨c, hcc⟩ : ∃ c, s[k] = c := ⟨_, rfl⟩
      have HJ := Lib.hid (show Mt.reg (4294967295 - sum) (s.data.toList.take (k + 1)) = Mt.by1 (Mt.reg (4294967295 - sum) (s.data.toList.take k)) c by rw [Mt.take_snoc s k hlt, hcc, Mt.reg_snoc])
      obtain ⟨Q, hQ⟩ : ∃ Q, Mt.reg (4294967295 - sum) (s.data.toList.take k) = Q := ⟨_, rfl⟩
      have hQL : Q < 4294967296 := by rw [← hQ]; exact Mt.reg_lt HR0.out _
      rw [hQ] at HJ ⊢
      clear hQ
      have hc256 : (c.toNat : Int) < 256 := by have := c.toNat_lt; omega
      have hxor : bits BinOp.xor IntKind.u32 (Q : Int) (c.toNat : Int) = ((Q ^^^ c.toNat : Nat) : Int) := u32_xor_nat Q c.toNat hQL (by omega)
      obtain ⟨X, hX⟩ : ∃ X, Q ^^^ c.toNat = X := ⟨_, rfl⟩
      have HXL := Lib.hid (show X < 4294967296 by rw [← hX]; exact Mt.xor_byte_lt hQL c)
      rw [hX] at hxor
      have HX := Lib.hid hX
      clear hQL hX
      go_wp2_with fail
      go_loop [5, 7] (fun r i => ∃ j : Nat, j ≤ 8 ∧ i = .int .i64 j ∧ r = .int .u32 (Mt.sh j X)) (fun _ i => 8 - (intOf i).toNat)
      case atStart => exact ⟨0, by omega, rfl, rfl⟩
      case round =>
        obtain ⟨j, hj, rfl, rfl⟩ := hrel
        have hR := Mt.sh_lt HXL.out j
        have HS := Lib.hid (show Mt.sh (j + 1) X = Mt.sh1 (Mt.sh j X) from rfl)
        obtain ⟨R, hRe⟩ : ∃ R, Mt.sh j X = R := ⟨_, rfl⟩
        rw [hRe] at hR HS ⊢
        have HE := Lib.hid hRe
        clear hRe hxor
        have HP := Lib.hid (rpoly R hR)
        have HH := Lib.hid (rhalf R hR)
        clear hR
        by_cases hjl : j < 8
        · by_cases hodd : R % 2 = 1
          · have ho : ((R : Int) % 2 == 1) = true := by simp; omega
            have HO := Lib.hid hodd
            clear hodd
            go_wp2_with fail
            go_round
            case rel => exact ⟨j + 1, by omega, by go_num, by rw [HP.out, HS.out, Mt.sh1, if_pos HO.out]⟩
            case measure => simp [intOf]; omega
          · have ho : ((R : Int) % 2 == 1) = false := by simp; omega
            have HO := Lib.hid hodd
            clear hodd
            go_wp2_with fail
            go_round
            case rel => exact ⟨j + 1, by omega, by go_num, by rw [HS.out, Mt.sh1, if_neg HO.out, HH.out]⟩
            case measure => simp [intOf]; omega
        · obtain rfl : j = 8 := by omega
          go_wp2_with fail
          go_round
          case rel => exact ⟨k + 1, by omega, by go_num, by rw [HJ.out, Mt.by1, HX.out, HE.out]⟩
          case measure => simp [intOf]; omega
    · obtain rfl : k = s.size := by omega
      have HT := Lib.hid (show s.data.toList.take s.size = s.data.toList from List.take_of_length_le (Nat.le_refl _))
      go_wp2_with fail
      go_ret
      exact ⟨Mt.ret_int (by rw [HT.out]; exact H2.out _ (Mt.reg_lt HR0.out _)), rfl⟩

theorem rsum_any (s : ByteArray) (w : World) (hs : s.size ≤ 140737488351232) :
    Calls Tryz.prog 89 #[.string s] w fun e w' => e = .returned (.int .u32 (Mt.addS 0 s.data.toList)) ∧ w = w' := by
  have HA := Lib.hid (fun u => radd_any 0 s u (by omega) hs)
  go_enter Tryz.func89, Tryz.ntmps89
  go_wp2_with fail
  refine (HA.out _).mono ?_
  rintro e w' ⟨rfl, rfl⟩
  go_wp2_with fail
  go_ret
  exact ⟨rfl, rfl⟩

theorem cat_known : Mt.addS 0 (⟨#[49, 50, 51, 52, 53, 54, 55, 56, 57]⟩ : ByteArray).data.toList = 3421780262 := by decide +kernel
theorem cat_known2 : Mt.addS 0 (Mt.cat [⟨#[49, 50, 51, 52]⟩, ⟨#[53, 54, 55, 56, 57]⟩]) = 3421780262 := by decide +kernel

/-- Whether the joining gives up at a place. -/
def Far (ss : List ByteArray) (k : Nat) : Prop := 100 < ss.length ∨ 10000 < (ss.getD k ByteArray.empty).size ∨ 10000 < (Mt.cat (ss.take k)).length

end Go.Proofs.YtnioagojiipjlaaGreat
