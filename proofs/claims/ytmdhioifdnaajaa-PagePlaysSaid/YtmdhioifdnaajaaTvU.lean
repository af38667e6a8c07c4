/-
  What tlv.oneByte, front, ask come to.
-/
import Derived.Test.YtmdhioifdnaajaaTvS
set_option linter.unusedVariables false
set_option linter.unusedSimpArgs false
namespace Go.Proofs.Ytmdhioifdnaajaa
open Go.RowKit

theorem Mt.str_append (a b : List UInt8) : Mt.str a ++ Mt.str b = Mt.str (a ++ b) := by
  apply ByteArray.ext
  simp [Mt.str]
theorem oneByte_any (n : Nat) (hn : n < 256) (w : World) : Calls Try.prog 38 #[.int .i64 n] w fun e w' => e = .returned (.string (Mt.str [UInt8.ofNat n])) ∧ Below w.heap.size w w' := by
  have HP := Lib.hid (put_yes n 1 w (by omega) (by omega))
  have hs : strOfNums (Mt.be n 1) = Mt.str [UInt8.ofNat n] := by
    rw [Mt.str_be, Mt.beU1]
    congr 2
    apply Mt.u8_ext
    simp [UInt8.toNat_ofNat']
  rw [hs] at HP
  have hw : IntKind.u64.wrap (n : Int) = n := by simp [IntKind.wrap, IntKind.bits, IntKind.signed]; omega
  clear hs
  go_enter Try.func38, Try.ntmps38
  go_wp2_with fail
  refine (HP.out).mono ?_
  rintro e w' ⟨rfl, hb⟩
  have HB := Lib.hid hb
  clear hb
  go_wp2_with fail
  go_ret
  exact ⟨rfl, HB.out⟩

theorem Mt.lenSize_iff (n k : Nat) (hn : n ≤ 1048576) (h1 : 1 ≤ k) (hk : k ≤ Mt.lenSize n) : (0 : Int) < (n : Int) / 2 ^ (8 * k) ↔ k < Mt.lenSize n := by
  unfold Mt.lenSize at hk ⊢
  have h3 : k = 1 ∨ k = 2 ∨ k = 3 := by
    split at hk
    · omega
    · split at hk <;> omega
  rcases h3 with rfl | rfl | rfl
  all_goals
    simp only [Nat.reduceMul, Int.reducePow] at hk ⊢
    (repeat' split) <;> omega

set_option maxRecDepth 100000 in
theorem front_any (t n : Nat) (ht : t < 256) (hn : n ≤ 1048576) (w : World) : Calls Try.prog 32 #[.int .i64 t, .int .i64 n] w fun e w' => e = .returned (.string (Mt.str (Mt.frontL t n))) ∧ Below w.heap.size w w' := by
  have HT := Lib.hid (fun W => oneByte_any t ht W)
  by_cases h : n < 128
  · have hd : decide (n < 128) = true := decide_eq_true h
    have e1 : Mt.frontL t n = [UInt8.ofNat t] ++ [UInt8.ofNat n] := by unfold Mt.frontL; rw [if_pos h]; rfl
    have HN := Lib.hid (fun W => oneByte_any n (by omega) W)
    have hadd := Mt.str_append [UInt8.ofNat t] [UInt8.ofNat n]
    have hsz : (Mt.str [UInt8.ofNat t]).size + (Mt.str [UInt8.ofNat n]).size ≤ 9223372036854775807 := by rw [Mt.str_size, Mt.str_size]; simp
    have hrun := fun wx => run_string_add_sum (w := wx) (P := Try.prog) (Mt.str [UInt8.ofNat t]) (Mt.str [UInt8.ofNat n]) hsz
    rw [hadd] at hrun
    rw [e1]
    clear e1 hadd hsz
    go_enter Try.func32, Try.ntmps32
    go_wp2_with fail
    refine (HT.out _).mono ?_
    rintro e w1 ⟨rfl, hb⟩
    have HB := Lib.hid hb
    clear hb
    go_wp2_with fail
    refine (HN.out _).mono ?_
    rintro e w2 ⟨rfl, hb⟩
    have HB2 := Lib.hid (HB.out.trans (hb.mono HB.out.size))
    clear hb
    go_wp2_with fail
    go_ret
    exact ⟨rfl, HB2.out⟩
  · have hd : decide (n < 128) = false := decide_eq_false h
    have e1 : Mt.frontL t n = [UInt8.ofNat t] ++ [UInt8.ofNat (128 + Mt.lenSize n)] ++ Mt.beU n (Mt.lenSize n) := by unfold Mt.frontL; rw [if_neg h]; rfl
    have HL := Lib.hid (fun k (h1 : 1 ≤ k) (hk : k ≤ Mt.lenSize n) => Mt.lenSize_iff n k hn h1 hk)
    have hz : 1 ≤ Mt.lenSize n ∧ Mt.lenSize n ≤ 3 := by unfold Mt.lenSize; (repeat' split) <;> omega
    have HE := Lib.hid e1
    clear e1
    generalize Mt.lenSize n = z at *
    have HO := Lib.hid (fun W => oneByte_any (128 + z) (by omega) W)
    have HP : Hid (∀ W : World, Calls Try.prog 16 #[.int .u64 n, .int .i64 z] W fun e w' => e = .returned (.string (Mt.str (Mt.beU n z))) ∧ Below W.heap.size W w') := fun W => by
      have h := put_yes n z W hz.1 (by omega)
      rwa [Mt.str_be] at h
    have hadd := Mt.str_append [UInt8.ofNat t] [UInt8.ofNat (128 + z)]
    have hsz : (Mt.str [UInt8.ofNat t]).size + (Mt.str [UInt8.ofNat (128 + z)]).size ≤ 9223372036854775807 := by rw [Mt.str_size, Mt.str_size]; simp
    have hrun := fun wx => run_string_add_sum (w := wx) (P := Try.prog) (Mt.str [UInt8.ofNat t]) (Mt.str [UInt8.ofNat (128 + z)]) hsz
    have hadd2 := Mt.str_append ([UInt8.ofNat t] ++ [UInt8.ofNat (128 + z)]) (Mt.beU n z)
    have hsz2 : (Mt.str ([UInt8.ofNat t] ++ [UInt8.ofNat (128 + z)])).size + (Mt.str (Mt.beU n z)).size ≤ 9223372036854775807 := by rw [Mt.str_size, Mt.str_size, Mt.beU_length]; simp; omega
    have hrun2 := fun wx => run_string_add_sum (w := wx) (P := Try.prog) (Mt.str ([UInt8.ofNat t] ++ [UInt8.ofNat (128 + z)])) (Mt.str (Mt.beU n z)) hsz2
    rw [hadd] at hrun
    rw [hadd2] at hrun2
    have HR1 := Lib.hid hrun
    have HR2 := Lib.hid hrun2
    have HEE : Hid (Mt.str (Mt.frontL t n) = Mt.str ([UInt8.ofNat t] ++ [UInt8.ofNat (128 + z)] ++ Mt.beU n z)) := by rw [HE.out]; exact Lib.hid rfl
    clear HE hadd hsz hadd2 hsz2 hrun hrun2
    generalize Mt.str ([UInt8.ofNat t] ++ [UInt8.ofNat (128 + z)] ++ Mt.beU n z) = ABC at *
    generalize Mt.str ([UInt8.ofNat t] ++ [UInt8.ofNat (128 + z)]) = AB at *
    generalize Mt.str [UInt8.ofNat (128 + z)] = SB at *
    generalize Mt.str [UInt8.ofNat t] = SA at *
    have hw : IntKind.u64.wrap (n : Int) = n := by simp [IntKind.wrap, IntKind.bits, IntKind.signed]; omega
    go_enter Try.func32, Try.ntmps32
    go_wp2_with fail
    go_loop [5] (fun i => ∃ k : Nat, 1 ≤ k ∧ k ≤ z ∧ i = .int .i64 k) (fun i => 8 - (intOf i).toNat)
    case atStart => exact ⟨1, by omega, by omega, rfl⟩
    case round =>
      obtain ⟨k, hk1, hkz, rfl⟩ := hrel
      by_cases hk : k = z
      · subst hk
        have ht1 : decide ((0 : Int) < (n : Int) / 2 ^ (8 * k)) = false := decide_eq_false (fun h => by have := (HL.out k hk1 hkz).1 h; omega)
        have ht2 : ¬ ((0 : Int) < (n : Int) / 2 ^ (8 * k)) := fun h => by have := (HL.out k hk1 hkz).1 h; omega
        go_wp2_with fail
        refine (HT.out _).mono ?_
        rintro e w1 ⟨rfl, hb⟩
        have HB := Lib.hid hb
        clear hb
        have ho : Calls Try.prog 38 #[.int .i64 (128 + (k : Int))] w1 fun e w' => e = .returned (.string SB) ∧ Below w1.heap.size w1 w' := HO.out w1
        have HO1 := Lib.hid ho
        clear ho
        go_wp2_with fail
        refine (HO1.out).mono ?_
        rintro e w2 ⟨rfl, hb⟩
        have HB2 := Lib.hid (HB.out.trans (hb.mono HB.out.size))
        have hrun := HR1.out
        clear hb
        go_wp2_with fail
        refine (HP.out _).mono ?_
        rintro e w3 ⟨rfl, hb⟩
        have HB3 := Lib.hid (HB2.out.trans (hb.mono HB2.out.size))
        have hrun2 := HR2.out
        clear hb hrun
        go_wp2_with fail
        go_ret
        exact ⟨Mt.ret_str HEE.out.symm, HB3.out⟩
      · have ht1 : decide ((0 : Int) < (n : Int) / 2 ^ (8 * k)) = true := decide_eq_true ((HL.out k hk1 hkz).2 (by omega))
        have ht2 : ((0 : Int) < (n : Int) / 2 ^ (8 * k)) := (HL.out k hk1 hkz).2 (by omega)
        go_wp2_with fail
        go_round
        case rel => exact ⟨k + 1, by omega, by omega, by go_num⟩
        case measure => simp [intOf]; omega

/-- What keeps a node from being said, whatever stands in it. -/
def Mt.askN (d : Nat) (t : Int) (D : List UInt8) (m : Nat) : Nat := if d = 0 then 6 else if Mt.badTag t then 7 else if Mt.cons t ∧ D ≠ [] ∨ ¬ Mt.cons t ∧ m ≠ 0 then 4 else 0
theorem empty_str : (Mt.str []).toList.isEmpty = true := by rw [ByteArray.toList_eq]; rfl

set_option maxRecDepth 100000 in
theorem ask_any (d dep : Nat) (hd : dep + d = 65) (t : Int) (D : List UInt8) (a : Option Addr) (m c : Nat) (w : World) :
    Calls Try.prog 31 #[.agg #[.int .i64 t, .string (Mt.str D), .slice a m c], .int .i64 dep] w fun e w' => e = .returned (.int .i64 (Mt.askN d t D m)) ∧ Below w.heap.size w w' := by
  have HB := Lib.hid ((Below.refl w.heap.size w).alloc (Nat.le_refl _) (.cells #[.int .i64 t, .string (Mt.str D), .slice a m c] 62))
  by_cases h0 : d = 0
  · have hd64 : (64 : Int) < dep := by omega
    have hdd : decide ((64 : Int) < dep) = true := decide_eq_true hd64
    have e1 : Mt.askN d t D m = 6 := by unfold Mt.askN; rw [if_pos h0]
    rw [e1]
    clear e1 hd h0
    go_enter Try.func31, Try.ntmps31
    go_wp2_with fail
    go_ret
    exact ⟨rfl, HB.out⟩
  · have hd64 : (dep : Int) ≤ 64 := by omega
    have hdd : decide ((64 : Int) < dep) = false := decide_eq_false (by omega)
    by_cases hlo : t < 0
    · have e1 : Mt.askN d t D m = 7 := by unfold Mt.askN; rw [if_neg h0, if_pos (.inl hlo)]
      have hd1 : decide (t < 0) = true := decide_eq_true hlo
      rw [e1]
      clear e1 hd h0
      go_enter Try.func31, Try.ntmps31
      go_wp2_with fail
      go_ret
      exact ⟨rfl, HB.out⟩
    · have hd1 : decide (t < 0) = false := decide_eq_false hlo
      by_cases hhi : 255 < t
      · have e1 : Mt.askN d t D m = 7 := by unfold Mt.askN; rw [if_neg h0, if_pos (.inr (.inl hhi))]
        have hd2 : decide (255 < t) = true := decide_eq_true hhi
        rw [e1]
        clear e1 hd h0
        go_enter Try.func31, Try.ntmps31
        go_wp2_with fail
        go_ret
        exact ⟨rfl, HB.out⟩
      · obtain ⟨k, hk⟩ := Int.eq_ofNat_of_zero_le (Int.not_lt.1 hlo)
        subst hk
        have hk256 : k < 256 := by omega
        have HS := Lib.hid (fun W => single_any k hk256 W)
        have HC := Lib.hid (fun W => constructed_any k hk256 W)
        by_cases h31 : k % 32 = 31
        · have e1 : Mt.askN d k D m = 7 := by unfold Mt.askN; rw [if_neg h0, if_pos (.inr (.inr (by omega)))]
          have hb : decide (k % 32 ≠ 31) = false := by simp [h31]
          rw [e1]
          rw [hb] at HS
          clear e1 hd h0 hb h31
          go_enter Try.func31, Try.ntmps31
          go_wp2_with fail
          refine (HS.out _).mono ?_
          rintro e w' ⟨rfl, rfl⟩
          go_wp2_with fail
          go_ret
          exact ⟨rfl, HB.out⟩
        · have hb : decide (k % 32 ≠ 31) = true := by simp [h31]
          rw [hb] at HS
          have hnb : ¬ Mt.badTag (k : Int) := by unfold Mt.badTag; omega
          by_cases hc : k / 32 % 2 = 1
          · have hcb : decide (k / 32 % 2 = 1) = true := by simp [hc]
            rw [hcb] at HC
            have hcons : Mt.cons (k : Int) := by unfold Mt.cons; omega
            by_cases hD : D = []
            · subst hD
              have hes := empty_str
              have e1 : Mt.askN d k [] m = 0 := by unfold Mt.askN; rw [if_neg h0, if_neg hnb, if_neg (by simp [hcons])]
              rw [e1]
              clear e1 hd h0 hb h31 hnb hcons hcb hc
              go_enter Try.func31, Try.ntmps31
              go_wp2_with fail
              refine (HS.out _).mono ?_
              rintro e w' ⟨rfl, rfl⟩
              go_wp2_with fail
              refine (HC.out _).mono ?_
              rintro e w' ⟨rfl, rfl⟩
              go_wp2_with fail
              refine (HC.out _).mono ?_
              rintro e w' ⟨rfl, rfl⟩
              go_wp2_with fail
              go_ret
              exact ⟨rfl, HB.out⟩
            · have hes : (Mt.str D).toList.isEmpty = false := nonempty_str (by rw [Mt.str_size]; exact List.length_pos_iff.2 hD)
              have e1 : Mt.askN d k D m = 4 := by unfold Mt.askN; rw [if_neg h0, if_neg hnb, if_pos (.inl ⟨hcons, hD⟩)]
              rw [e1]
              clear e1 hd h0 hb h31 hnb hcons hcb hc
              go_enter Try.func31, Try.ntmps31
              go_wp2_with fail
              refine (HS.out _).mono ?_
              rintro e w' ⟨rfl, rfl⟩
              go_wp2_with fail
              refine (HC.out _).mono ?_
              rintro e w' ⟨rfl, rfl⟩
              go_wp2_with fail
              go_ret
              exact ⟨rfl, HB.out⟩
          · have hcb : decide (k / 32 % 2 = 1) = false := by simp [hc]
            rw [hcb] at HC
            have hcons : ¬ Mt.cons (k : Int) := by unfold Mt.cons; omega
            by_cases hm : m = 0
            · subst hm
              have e1 : Mt.askN d k D 0 = 0 := by unfold Mt.askN; rw [if_neg h0, if_neg hnb, if_neg (by simp [hcons])]
              rw [e1]
              clear e1 hd h0 hb h31 hnb hcons hcb hc
              go_enter Try.func31, Try.ntmps31
              go_wp2_with fail
              refine (HS.out _).mono ?_
              rintro e w' ⟨rfl, rfl⟩
              go_wp2_with fail
              refine (HC.out _).mono ?_
              rintro e w' ⟨rfl, rfl⟩
              go_wp2_with fail
              refine (HC.out _).mono ?_
              rintro e w' ⟨rfl, rfl⟩
              go_wp2_with fail
              go_ret
              exact ⟨rfl, HB.out⟩
            · have hmp : 0 < m := by omega
              have hmd : decide (0 < m) = true := decide_eq_true hmp
              have e1 : Mt.askN d k D m = 4 := by unfold Mt.askN; rw [if_neg h0, if_neg hnb, if_pos (.inr ⟨hcons, hm⟩)]
              rw [e1]
              clear e1 hd h0 hb h31 hnb hcons hcb hc hm
              go_enter Try.func31, Try.ntmps31
              go_wp2_with fail
              refine (HS.out _).mono ?_
              rintro e w' ⟨rfl, rfl⟩
              go_wp2_with fail
              refine (HC.out _).mono ?_
              rintro e w' ⟨rfl, rfl⟩
              go_wp2_with fail
              refine (HC.out _).mono ?_
              rintro e w' ⟨rfl, rfl⟩
              go_wp2_with fail
              go_ret
              exact ⟨rfl, HB.out⟩
end Go.Proofs.Ytmdhioifdnaajaa
