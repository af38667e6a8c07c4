/-
  Some texts of one proof, one behind the other.
-/
import Derived.Deep.QuietTactic
import Derived.BigQuiet
import Derived.Test.YtnioagojiipjlaaGreatPk20
set_option linter.unusedVariables false
set_option linter.unusedSimpArgs false

/-
  What the statements' own same, and the document's Need, come to.
-/
namespace Go.Proofs.YtnioagojiipjlaaGreat
open Go.RowKit
set_option maxRecDepth 100000 in
theorem rneed_no (n : Int) (w : World) (h : n < 0 ∨ 262144 < n) : Calls Tryz.prog 48 #[.int .i64 n] w fun e w' => e = .returned (.int .i64 0) ∧ w = w' := by
  rcases h with h | h
  · go_enter Tryz.func48, Tryz.ntmps48
    go_wp2_with fail
    go_ret
    exact ⟨rfl, rfl⟩
  · have hd : decide (n < 0) = false := decide_eq_false (by omega)
    go_enter Tryz.func48, Tryz.ntmps48
    go_wp2_with fail
    go_ret
    exact ⟨rfl, rfl⟩
set_option maxRecDepth 100000 in
theorem rneed_yes (n : Nat) (w : World) (h : n ≤ 262144) : Calls Tryz.prog 48 #[.int .i64 n] w fun e w' => e = .returned (.int .i64 (Mt.cellsN n : Int)) ∧ w = w' := by
  have HR := Lib.hid (show (Mt.cellsN n : Int) = ((max 1 ((n + 109) / 110) : Nat) : Int) from rfl)
  generalize (Mt.cellsN n : Int) = r at HR ⊢
  have hd : decide ((n : Int) < 0) = false := decide_eq_false (by omega)
  have hd2 : decide ((262144 : Int) < n) = false := decide_eq_false (by omega)
  by_cases h1 : 0 < n % 110
  · have d1 : decide ((0 : Int) < (n : Int) % 110) = true := decide_eq_true (by omega)
    go_enter Tryz.func48, Tryz.ntmps48
    go_wp2
    all_goals
      go_ret
      exact ⟨Mt.ret_int (by rw [HR.out]; omega), rfl⟩
  · have d1 : decide ((0 : Int) < (n : Int) % 110) = false := decide_eq_false (by omega)
    by_cases h2 : n = 0
    · have d2 : ((n : Int) == 0) = true := by rw [beq_iff_eq]; omega
      have H2 := Lib.hid h2
      clear h2
      go_enter Tryz.func48, Tryz.ntmps48
      go_wp2
      all_goals
        go_ret
        exact ⟨Mt.ret_int (by have := H2.out; rw [HR.out]; omega), rfl⟩
    · have d2 : ((n : Int) == 0) = false := by rw [beq_eq_false_iff_ne]; omega
      have H2 := Lib.hid h2
      clear h2
      go_enter Tryz.func48, Tryz.ntmps48
      go_wp2
      all_goals
        go_ret
        exact ⟨Mt.ret_int (by have := H2.out; rw [HR.out]; omega), rfl⟩

set_option maxRecDepth 100000 in
theorem same6_any {w : World} {v1 v2 : Value} {xs bs : List (List UInt8)} (h1 : IsTs w v1 xs) (h2 : IsTs w v2 bs) (hn : xs.length ≤ 9223372036854775807) (hm : bs.length ≤ 9223372036854775807) :
    Calls Tryz.prog 13 #[v1, v2] w fun e w' => e = .returned (.bool (decide (xs = bs))) ∧ Below w.heap.size w w' := by
  have H1 := Lib.hid (fun u (hb : Below w.heap.size w u) => h1.below hb)
  have H2 := Lib.hid (fun u (hb : Below w.heap.size w u) => h2.below hb)
  obtain ⟨a1, c1, rfl, -⟩ := h1
  obtain ⟨a2, c2, rfl, -⟩ := h2
  by_cases hl : xs.length = bs.length
  · have hd : ((xs.length : Int) == (bs.length : Int)) = true := by rw [beq_iff_eq]; omega
    have he : ((xs.length : Int) != (bs.length : Int)) = false := by rw [bne, hd]; rfl
    obtain ⟨n, hna⟩ : ∃ n, xs.length = n := ⟨_, rfl⟩
    have hnb : bs.length = n := by omega
    have HA := Lib.hid hna
    have HB := Lib.hid hnb
    rw [hna, hnb] at hd he
    rw [hna] at H1 hn
    rw [hnb] at H2
    rw [hna, hnb]
    clear hl hna hnb hm
    go_enter Tryz.func13, Tryz.ntmps13
    go_wp2_with fail
    go_loopw [5, 13] (fun _ i wr => ∃ k : Nat, k ≤ n ∧ i = .int .i64 k ∧ Hid (Below w.heap.size w wr) ∧ Hid (∀ m, m < k → xs[m]? = bs[m]?)) (fun _ i _ => n - (intOf i).toNat)
    case atStart => exact ⟨0, Nat.zero_le _, rfl, Lib.hid (Below.refl _ _), Lib.hid fun m h => by omega⟩
    case round =>
      obtain ⟨k, hk, rfl, HBW, HEQ⟩ := hrel
      by_cases hlt : k < n
      · have hka : k < xs.length := by rw [HA.out]; exact hlt
        have hkb : k < bs.length := by rw [HB.out]; exact hlt
        obtain ⟨x1, y1, e1, HX1⟩ := (H1.out wr HBW.out).open
        obtain ⟨x2, y2, e2, HX2⟩ := (H2.out wr HBW.out).open
        rw [HA.out] at e1
        rw [HB.out] at e2
        obtain ⟨rfl, rfl⟩ : a1 = x1 ∧ c1 = y1 := by cases e1; exact ⟨rfl, rfl⟩
        obtain ⟨rfl, rfl⟩ : a2 = x2 ∧ c2 = y2 := by cases e2; exact ⟨rfl, rfl⟩
        obtain ⟨b1, o1, rfl, -, hc1⟩ := HX1.out k hka
        obtain ⟨b2, o2, rfl, -, hc2⟩ := HX2.out k hkb
        have hki : (k : Int) < (n : Int) := by omega
        have HEA := Lib.hid (List.getElem?_eq_getElem hka)
        have HEB := Lib.hid (List.getElem?_eq_getElem hkb)
        generalize xs[k] = p at *
        generalize bs[k] = q at *
        clear e1 e2 HX1 HX2
        by_cases hpq : p = q
        · have hs : ((Mt.str p).toList == (Mt.str q).toList) = true := by rw [hpq]; simp
          have hs2 : ((Mt.str p).toList != (Mt.str q).toList) = false := by rw [bne, hs]; rfl
          have HPQ := Lib.hid hpq
          clear hpq
          generalize Mt.str p = P at *
          generalize Mt.str q = Q at *
          go_wp2_with fail
          go_quiet (fail)
          go_wp2_with fail
          go_roundw
          case rel =>
            refine ⟨k + 1, by omega, by go_num, Lib.hid (HBW.out.trans ⟨rfl, rfl, rfl, Nat.le_refl _, fun _ _ => rfl⟩), Lib.hid fun m hm2 => ?_⟩
            by_cases e : m = k
            · subst e; rw [HEA.out, HEB.out, HPQ.out]
            · exact HEQ.out m (by omega)
          case measure => simp [intOf]; omega
        · have hs : ((Mt.str p).toList == (Mt.str q).toList) = false := by
            rw [beq_eq_false_iff_ne]
            intro e
            rw [ByteArray.toList_eq, ByteArray.toList_eq] at e
            exact hpq e
          have hs2 : ((Mt.str p).toList != (Mt.str q).toList) = true := by rw [bne, hs]; rfl
          have HPQ := Lib.hid hpq
          clear hpq
          generalize Mt.str p = P at *
          generalize Mt.str q = Q at *
          go_wp2_with fail
          go_quiet (fail)
          go_wp2_with fail
          go_ret
          refine ⟨Mt.ret_bool ?_, HBW.out.trans ⟨rfl, rfl, rfl, Nat.le_refl _, fun _ _ => rfl⟩⟩
          rw [decide_eq_false]
          intro e
          have h3 := HEA.out
          rw [e, HEB.out] at h3
          exact HPQ.out (Option.some.inj h3).symm
      · obtain rfl : k = n := by omega
        go_wp2_with fail
        go_ret
        refine ⟨Mt.ret_bool ?_, HBW.out⟩
        rw [decide_eq_true]
        apply List.ext_getElem?
        intro m
        by_cases h : m < k
        · exact HEQ.out m h
        · rw [List.getElem?_eq_none (by rw [HA.out]; omega), List.getElem?_eq_none (by rw [HB.out]; omega)]
  · have hd : ((xs.length : Int) == (bs.length : Int)) = false := by rw [beq_eq_false_iff_ne]; omega
    have he : ((xs.length : Int) != (bs.length : Int)) = true := by rw [bne, hd]; rfl
    have HL := Lib.hid hl
    clear hl
    go_enter Tryz.func13, Tryz.ntmps13
    go_wp2_with fail
    go_ret
    exact ⟨Mt.ret_bool (by rw [decide_eq_false]; intro e; exact HL.out (by rw [e])), Below.refl _ _⟩
end Go.Proofs.YtnioagojiipjlaaGreat
