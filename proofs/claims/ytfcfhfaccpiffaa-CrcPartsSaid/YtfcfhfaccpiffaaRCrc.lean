/-
  What crc.Sum, the document's Add and Sum, the joining of parts, and the chapter's examples come to.
-/
import Derived.Test.YtfcfhfaccpiffaaCrc
import Derived.Deep.AppendLies
namespace Go.Proofs.Ytfcfhfaccpiffaa
open Go.RowKit

theorem sum_nil (a : Option Addr) (cap : Nat) (w : World) : Calls Try.prog 29 #[.slice a 0 cap] w fun e w' => e = .returned (.int .u32 (Mt.addS 0 [])) ∧ w = w' := by
  have HA := Lib.hid (fun u => add_nil 0 a cap u (by omega))
  go_enter Try.func29, Try.ntmps29
  go_wp2_with fail
  refine (HA.out _).mono ?_
  rintro e w' ⟨rfl, rfl⟩
  go_wp2_with fail
  go_ret
  exact ⟨rfl, rfl⟩

theorem sum_some (b off cap : Nat) (ss : List ByteArray) (w : World) (hn : ss.length ≤ 9223372036854775807) (hs : ∀ p ∈ ss, p.size ≤ 9223372036854775807)
    (hc : ∀ i (hi : i < ss.length), w.cell? ⟨b, off + i, none⟩ = some (.string ss[i])) :
    Calls Try.prog 29 #[.slice (some ⟨b, off, none⟩) ss.length cap] w fun e w' => e = .returned (.int .u32 (Mt.addS 0 (Mt.cat ss))) ∧ w = w' := by
  have HA := Lib.hid (add_some 0 b off cap ss w (by omega) hn hs hc)
  clear hn hs hc
  go_enter Try.func29, Try.ntmps29
  go_wp2_with fail
  refine (HA.out).mono ?_
  rintro e w' ⟨rfl, rfl⟩
  go_wp2_with fail
  go_ret
  exact ⟨rfl, rfl⟩

theorem rhalf (R : Nat) (hR : R < 4294967296) : (R : Int) / 2 % 4294967296 = ((R / 2 : Nat) : Int) := by omega
theorem rpoly (R : Nat) (hR : R < 4294967296) : bits .xor .u32 ((R : Int) / 2 % 4294967296) 3988292384 = ((R / 2 ^^^ 3988292384 : Nat) : Int) := by
  rw [rhalf R hR, ← (shift_bits R hR).2]; rfl

theorem wrap_full (x : Nat) (h : x < 4294967296) : (4294967295 - (x : Int)) % 4294967296 = ((4294967295 - x : Nat) : Int) := by omega

set_option maxHeartbeats 800000 in
set_option maxRecDepth 100000 in
theorem radd_any (sum : Nat) (s : ByteArray) (w : World) (h : sum < 4294967296) (hs : s.size ≤ 140737488351232) :
    Calls Try.prog 32 #[.int .u32 sum, .string s] w fun e w' => e = .returned (.int .u32 (Mt.addS sum s.data.toList)) ∧ w = w' := by
  have H1 := Lib.hid (wrap_full sum h)
  have H2 := Lib.hid (fun r (hr : r < 4294967296) => wrap_full r hr)
  have HR0 := Lib.hid (show 4294967295 - sum < 4294967296 by omega)
  clear h
  go_enter Try.func32, Try.ntmps32
  go_wp2
  rw [H1.out]
  go_loop [5, 6] (fun r i => ∃ k : Nat, k ≤ s.size ∧ i = .int .i64 k ∧ r = .int .u32 (Mt.reg (4294967295 - sum) (s.data.toList.take k))) (fun _ i => s.size - (intOf i).toNat)
  case atStart => exact ⟨0, Nat.zero_le _, rfl, rfl⟩
  case round =>
    obtain ⟨k, hk, rfl, rfl⟩ := hrel
    by_cases hlt : k < s.size
    · obtain ⟨c, hcc⟩ : ∃ c, s[k] = c := ⟨_, rfl⟩
      have HJ := Lib.hid (show Mt.reg (4294967295 - sum) (s.data.toList.take (k + 1)) = Mt.by1 (Mt.reg (4294967295 - sum) (s.data.toList.take k)) c by rw [Mt.take_snoc s k hlt, hcc, Mt.reg_snoc])
      obtain ⟨Q, hQ⟩ : ∃ Q, Mt.reg (4294967295 - sum) (s.data.toList.take k) = Q := ⟨_, rfl⟩
      have hQL : Q < 4294967296 := by rw [← hQ]; exact Mt.reg_lt HR0.out _
      rw [hQ] at HJ ⊢
      clear hQ
      have hc256 : (c.toNat : Int) < 256 := by have := c.toNat_lt; omega
      have hxor : bits BinOp.xor IntKind.u32 (Q : Int) (c.toNat : Int) = ((Q ^^^ c.toNat : Nat) : Int) := u32_xor_nat Q c.toNat hQL (by omega)
      obtain ⟨X, hX⟩ : ∃ X, Q ^^^ c.toNat = X := ⟨_, rfl⟩
      have HXL := Lib.hid (show X < 4294967296 by rw [← hX]; exact Mt.xor_byte_lt hQL c)
      rw [hX] at hxor
      have HX := Lib.hid hX
      clear hQL hX
      go_wp2_with fail
      go_loop [5, 7] (fun r i => ∃ j : Nat, j ≤ 8 ∧ i = .int .i64 j ∧ r = .int .u32 (Mt.sh j X)) (fun _ i => 8 - (intOf i).toNat)
      case atStart => exact ⟨0, by omega, rfl, rfl⟩
      case round =>
        obtain ⟨j, hj, rfl, rfl⟩ := hrel
        have hR := Mt.sh_lt HXL.out j
        have HS := Lib.hid (show Mt.sh (j + 1) X = Mt.sh1 (Mt.sh j X) from rfl)
        obtain ⟨R, hRe⟩ : ∃ R, Mt.sh j X = R := ⟨_, rfl⟩
        rw [hRe] at hR HS ⊢
        have HE := Lib.hid hRe
        clear hRe hxor
        have HP := Lib.hid (rpoly R hR)
        have HH := Lib.hid (rhalf R hR)
        clear hR
        by_cases hjl : j < 8
        · by_cases hodd : R % 2 = 1
          · have ho : ((R : Int) % 2 == 1) = true := by simp; omega
            have HO := Lib.hid hodd
            clear hodd
            go_wp2_with fail
            go_round
            case rel => exact ⟨j + 1, by omega, by go_num, by rw [HP.out, HS.out, Mt.sh1, if_pos HO.out]⟩
            case measure => simp [intOf]; omega
          · have ho : ((R : Int) % 2 == 1) = false := by simp; omega
            have HO := Lib.hid hodd
            clear hodd
            go_wp2_with fail
            go_round
            case rel => exact ⟨j + 1, by omega, by go_num, by rw [HS.out, Mt.sh1, if_neg HO.out, HH.out]⟩
            case measure => simp [intOf]; omega
        · obtain rfl : j = 8 := by omega
          go_wp2_with fail
          go_round
          case rel => exact ⟨k + 1, by omega, by go_num, by rw [HJ.out, Mt.by1, HX.out, HE.out]⟩
          case measure => simp [intOf]; omega
    · obtain rfl : k = s.size := by omega
      have HT := Lib.hid (show s.data.toList.take s.size = s.data.toList from List.take_of_length_le (Nat.le_refl _))
      go_wp2_with fail
      go_ret
      exact ⟨Mt.ret_int (by rw [HT.out]; exact H2.out _ (Mt.reg_lt HR0.out _)), rfl⟩

theorem rsum_any (s : ByteArray) (w : World) (hs : s.size ≤ 140737488351232) :
    Calls Try.prog 30 #[.string s] w fun e w' => e = .returned (.int .u32 (Mt.addS 0 s.data.toList)) ∧ w = w' := by
  have HA := Lib.hid (fun u => radd_any 0 s u (by omega) hs)
  go_enter Try.func30, Try.ntmps30
  go_wp2_with fail
  refine (HA.out _).mono ?_
  rintro e w' ⟨rfl, rfl⟩
  go_wp2_with fail
  go_ret
  exact ⟨rfl, rfl⟩

theorem cat_known : Mt.addS 0 (⟨#[49, 50, 51, 52, 53, 54, 55, 56, 57]⟩ : ByteArray).data.toList = 3421780262 := by decide +kernel
theorem cat_known2 : Mt.addS 0 (Mt.cat [⟨#[49, 50, 51, 52]⟩, ⟨#[53, 54, 55, 56, 57]⟩]) = 3421780262 := by decide +kernel

/-- Sum of one text that was just laid. -/
theorem sum_one (s : ByteArray) (B : Nat) (w : World) (hB : B = w.heap.size) (hs : s.size ≤ 9223372036854775807) :
    Calls Try.prog 29 #[.slice (some ⟨B, 0, none⟩) 1 1] (w.alloc (.cells #[.string s] 9)) fun e w' => e = .returned (.int .u32 (Mt.addS 0 s.data.toList)) ∧ (w.alloc (.cells #[.string s] 9)) = w' := by
  subst hB
  have h := sum_some w.heap.size 0 1 [s] (w.alloc (.cells #[.string s] 9)) (by simp) (by simpa using hs) (fun i hi => by
    obtain rfl : i = 0 := by simpa using hi
    exact cell_one_new w (.string s) 9 0 (.string s) rfl)
  have e : Mt.cat [s] = s.data.toList := by simp [Mt.cat]
  rwa [e] at h
theorem cell_two (w : World) (x y : Value) (t : TypeId) (i : Nat) (hi : i < 2) : (w.alloc (.cells #[x, y] t)).cell? ⟨w.heap.size, 0 + i, none⟩ = some ([x, y][i]'hi) := by
  have h := World.news_of_block (w := w.alloc (.cells #[x, y] t)) (B := w.heap.size) (cs := #[x, y]) (t := t) (fr := (0, 0)) (heap_alloc_new w _) i ([x, y][i]'hi) (by
    match i, hi with
    | 0, _ => rfl
    | 1, _ => rfl)
  have e : (⟨w.heap.size, 0, none⟩ : Addr).add i = ⟨w.heap.size, 0 + i, none⟩ := by unfold Addr.add; split <;> simp_all
  rwa [e] at h
theorem sum_two (s t : ByteArray) (B : Nat) (w : World) (hB : B = w.heap.size) (hs : s.size ≤ 9223372036854775807) (ht : t.size ≤ 9223372036854775807) :
    Calls Try.prog 29 #[.slice (some ⟨B, 0, none⟩) 2 2] (w.alloc (.cells #[.string s, .string t] 9)) fun e w' => e = .returned (.int .u32 (Mt.addS 0 (Mt.cat [s, t]))) ∧ (w.alloc (.cells #[.string s, .string t] 9)) = w' := by
  subst hB
  exact sum_some w.heap.size 0 2 [s, t] (w.alloc (.cells #[.string s, .string t] 9)) (by simp) (by simp; exact ⟨hs, ht⟩) (fun i hi => by
    rw [cell_two w _ _ _ i hi]
    match i, hi with
    | 0, _ => rfl
    | 1, _ => rfl)

theorem awake2_any (w : World) : Calls Try.prog 28 #[] w fun e w' => e = .returned (.bool true) ∧ Below w.heap.size w w' := by
  have h1 := fun B u hB => sum_one ⟨#[49, 50, 51, 52, 53, 54, 55, 56, 57]⟩ B u hB (by decide)
  have h2 := fun B u hB => sum_two ⟨#[49, 50, 51, 52]⟩ ⟨#[53, 54, 55, 56, 57]⟩ B u hB (by decide) (by decide)
  rw [cat_known] at h1
  rw [cat_known2] at h2
  have HH1 := Lib.hid h1
  have HH2 := Lib.hid h2
  clear h1 h2
  go_enter Try.func28, Try.ntmps28
  go_wp2_with fail
  refine (HH1.out _ _ (by simp)).mono ?_
  rintro e w' ⟨rfl, rfl⟩
  go_wp2_with fail
  refine (HH2.out _ _ (by simp)).mono ?_
  rintro e w' ⟨rfl, rfl⟩
  go_wp2_with fail
  go_ret
  exact ⟨rfl, ((Below.refl _ _).alloc (Nat.le_refl _) _).alloc (by simp) _⟩

/-- Whether the joining gives up at a place. -/
def Far (ss : List ByteArray) (k : Nat) : Prop := 100 < ss.length ∨ 10000 < (ss.getD k ByteArray.empty).size ∨ 10000 < (Mt.cat (ss.take k)).length

theorem joined_nil (a : Option Addr) (cap : Nat) (w : World) : Calls Try.prog 27 #[.slice a 0 cap] w fun e w' => e = .returned (.tuple #[.string ByteArray.empty, .bool true]) ∧ w = w' := by
  go_enter Try.func27, Try.ntmps27
  go_wp2
  refine wp_loop_rounds 1 ?_
  rw [rounds_succ]
  go_wp2
  go_ret2
  exact ⟨rfl, rfl⟩

set_option maxHeartbeats 800000 in
set_option maxRecDepth 100000 in
theorem joined_any (b off cap : Nat) (ss : List ByteArray) (S : ByteArray) (B : Bool) (w : World) (hn : ss.length ≤ 9223372036854775807)
    (hc : ∀ i (hi : i < ss.length), w.cell? ⟨b, off + i, none⟩ = some (.string ss[i]))
    (hres : ((∀ k, k < ss.length → ¬ Far ss k) ∧ S = Mt.str (Mt.cat ss) ∧ B = true) ∨ ((∃ k, k < ss.length ∧ Far ss k) ∧ S = ByteArray.empty ∧ B = false)) :
    Calls Try.prog 27 #[.slice (some ⟨b, off, none⟩) ss.length cap] w fun e w' => e = .returned (.tuple #[.string S, .bool B]) ∧ w = w' := by
  have HC := Lib.hid hc
  have HRES := Lib.hid hres
  obtain ⟨n, hne⟩ : ∃ n, ss.length = n := ⟨_, rfl⟩
  have HNE := Lib.hid hne
  rw [hne] at hn ⊢
  clear hc hres hne
  go_enter Try.func27, Try.ntmps27
  go_wp2
  go_loop [4, 9] (fun r i => ∃ k : Nat, k ≤ n ∧ i = .int .i64 k ∧ r = .string (Mt.str (Mt.cat (ss.take k))) ∧ Hid (∀ j, j < k → ¬ Far ss j)) (fun _ i => n - (intOf i).toNat)
  case atStart => exact ⟨0, Nat.zero_le _, rfl, rfl, Lib.hid (fun j h => by omega)⟩
  case round =>
    obtain ⟨k, hk, rfl, rfl, HF⟩ := hrel
    by_cases hlt : k < n
    · have hkl : k < ss.length := by have := HNE.out; omega
      obtain ⟨p, hp⟩ : ∃ p, ss[k] = p := ⟨_, rfl⟩
      have hcell : w.cell? ⟨b, off + k, none⟩ = some (.string p) := by rw [← hp]; exact HC.out k hkl
      have HP := Lib.hid (show ss.getD k ByteArray.empty = p by rw [← hp]; simp [List.getD, hkl])
      have HCAT := Lib.hid (show Mt.str (Mt.cat (ss.take (k + 1))) = Mt.str (Mt.cat (ss.take k)) ++ p by rw [Mt.cat_snoc ss k hkl, hp, Mt.str_snoc])
      have HSZ := Lib.hid (Mt.str_size (Mt.cat (ss.take k)))
      obtain ⟨A, hA⟩ : ∃ A, Mt.str (Mt.cat (ss.take k)) = A := ⟨_, rfl⟩
      rw [hA] at HCAT HSZ ⊢
      clear hA hp
      have HBAD := Lib.hid (fun (h : Far ss k) => show S = ByteArray.empty ∧ B = false by
        rcases HRES.out with h2 | h2
        · exact absurd h (h2.1 k hkl)
        · exact h2.2)
      by_cases c1 : 100 < n
      · have HU := Lib.hid (HBAD.out (.inl (by have := HNE.out; omega)))
        have t1 : (100 : Int) < (n : Int) := by omega
        clear c1
        go_wp2_with fail
        go_ret2
        exact ⟨by rw [HU.out.1, HU.out.2]; rfl, rfl⟩
      · have t1 : decide ((100 : Int) < (n : Int)) = false := by simp; omega
        by_cases c2 : 10000 < p.size
        · have HU := Lib.hid (HBAD.out (.inr (.inl (by rw [HP.out]; exact c2))))
          have t2 : (10000 : Int) < (p.size : Int) := by omega
          clear c1 c2
          go_wp2_with fail
          go_ret2
          exact ⟨by rw [HU.out.1, HU.out.2]; rfl, rfl⟩
        · have t2 : decide ((10000 : Int) < (p.size : Int)) = false := by simp; omega
          by_cases c3 : 10000 < A.size
          · have HU := Lib.hid (HBAD.out (.inr (.inr (by rw [← HSZ.out]; exact c3))))
            have t3 : (10000 : Int) < (A.size : Int) := by omega
            clear c1 c2 c3
            go_wp2_with fail
            go_ret2
            exact ⟨by rw [HU.out.1, HU.out.2]; rfl, rfl⟩
          · have t3 : decide ((10000 : Int) < (A.size : Int)) = false := by simp; omega
            have HNF : Hid (¬ Far ss k) := Lib.hid (by
              unfold Far
              rw [HP.out, ← HSZ.out, HNE.out]
              omega)
            have hadd := fun wx => run_string_add_sum (w := wx) (P := Try.prog) A p (by omega)
            clear c1 c2 c3
            go_wp2_with fail
            go_round
            case rel => exact ⟨k + 1, by omega, by go_num, by rw [HCAT.out], Lib.hid (fun j h => by
              rcases Nat.lt_or_ge j k with h2 | h2
              · exact HF.out j h2
              · obtain rfl : j = k := by omega
                exact HNF.out)⟩
            case measure => simp [intOf]; omega
    · obtain rfl : k = n := by omega
      have HU : Hid (S = Mt.str (Mt.cat (ss.take k)) ∧ B = true) := Lib.hid (by
        have hk := HNE.out
        rw [List.take_of_length_le (by omega)]
        rcases HRES.out with h2 | h2
        · exact h2.2
        · obtain ⟨j, hj, hf⟩ := h2.1
          exact absurd hf (HF.out j (by omega)))
      go_wp2_with fail
      go_ret2
      exact ⟨by rw [HU.out.1, HU.out.2]; rfl, rfl⟩

end Go.Proofs.Ytfcfhfaccpiffaa
