/-
  Some texts of one proof, one behind the other.
-/
import Derived.Test.YtngdbhncafnliaaGreatPk7
import Derived.Test.YtngdbhncafnliaaGreatPk8
set_option linter.unusedVariables false
set_option linter.unusedSimpArgs false

/-
  Where a name stands, as the document has it.
-/
namespace Go.Proofs.YtngdbhncafnliaaGreat
open Go.RowKit

set_option maxRecDepth 100000 in
set_option maxHeartbeats 1000000 in
theorem rAt_any {w : World} {v : Value} {r : List Mt.Ty} (hv : IsTys w v r) (n : List UInt8) (hn : n.length ≤ 140737488351232) (hr : ∀ a ∈ r, a.name.length ≤ 140737488351232) (hl : r.length ≤ 4398046511104) :
    Calls Tryz.prog 28 #[v, .string (Mt.str n)] w fun e w' => e = .returned (.int .i64 (Mt.atL (fun t => Mt.sameN t.name n) r)) ∧ Below w.heap.size w w' := by
  obtain ⟨a, cap, rfl, hcap, hcell⟩ := hv
  have hd := Mt.atL_spec (fun t : Mt.Ty => Mt.sameN t.name n) r
  obtain ⟨k, hk⟩ : ∃ k, Mt.atL (fun t : Mt.Ty => Mt.sameN t.name n) r = k := ⟨_, rfl⟩
  rw [hk] at hd ⊢
  have HD := Lib.hid hd
  have HR := Lib.hid hr
  have HFN := Lib.hid (fun u => rfold_any (Mt.str n) u (by rw [Mt.str_size]; exact hn))
  rw [Mt.str_data] at HFN
  clear hk hd hr
  obtain ⟨m0, hm0⟩ : ∃ m, r.length = m := ⟨_, rfl⟩
  have HL := Lib.hid hm0
  rw [hm0] at hl ⊢
  obtain ⟨N, hN⟩ : ∃ N, Mt.str n = N := ⟨_, rfl⟩
  obtain ⟨FN, hFN⟩ : ∃ FN, Mt.str (n.map Mt.sm) = FN := ⟨_, rfl⟩
  rw [hN, hFN] at HFN
  rw [hN]
  have HFD : Hid (FN.toList = Mt.foldL n) := Lib.hid (by rw [← hFN, ByteArray.toList_eq, Mt.str_data]; rfl)
  clear hm0 hcap hN hFN hn
  go_enter Tryz.func28, Tryz.ntmps28
  go_wp2_with fail
  go_loopw [8] (fun i wr => ∃ m : Nat, m ≤ m0 ∧ i = .int .i64 m ∧ Hid (∀ j (hj : j < r.length), j < m → Mt.sameN r[j].name n = false) ∧ Hid (Below w.heap.size w wr))
    (fun i _ => m0 - (intOf i).toNat)
  case atStart => exact ⟨0, Nat.zero_le _, rfl, Lib.hid fun j _ h => absurd h (Nat.not_lt_zero _), Lib.hid (Below.refl _ _)⟩
  case round =>
    obtain ⟨m, hm, rfl, HO, HB⟩ := hrel
    by_cases hlt : m < m0
    · have hmr : m < r.length := by rw [HL.out]; exact hlt
      obtain ⟨b, off, e0, hbl, h0, -, -, -⟩ := hcell.out m hmr
      obtain ⟨t, ht⟩ : ∃ t, r[m] = t := ⟨_, rfl⟩
      rw [ht] at h0
      subst e0
      have x0 := (HB.out.cell (p := ⟨b, off + m * 4, none⟩) hbl).trans h0
      have htl : t.name.length ≤ 140737488351232 := by rw [← ht]; exact HR.out _ (List.getElem_mem hmr)
      have HFT := Lib.hid (fun u => rfold_any (Mt.str t.name) u (by rw [Mt.str_size]; omega))
      rw [Mt.str_data] at HFT
      obtain ⟨FT, hFT⟩ : ∃ FT, Mt.str (t.name.map Mt.sm) = FT := ⟨_, rfl⟩
      rw [hFT] at HFT
      obtain ⟨q, hq⟩ : ∃ q, Mt.sameN t.name n = q := ⟨_, rfl⟩
      have HQ : Hid (Mt.sameN r[m].name n = q) := Lib.hid (by rw [ht]; exact hq)
      have HEQ : Hid ((FT.toList == FN.toList) = q) := Lib.hid (by
        rw [HFD.out, ← hFT, ByteArray.toList_eq, Mt.str_data, ← hq]
        unfold Mt.sameN
        rw [Bool.eq_iff_iff, beq_iff_eq, decide_eq_true_eq]; rfl)
      have HH : Hid (q = true → k = m) := Lib.hid (by
        intro h
        rcases HD.out with ⟨_, h2⟩ | ⟨m2, rfl, hm2, h3, h4⟩
        · have := h2 m hmr; rw [HQ.out, h] at this; cases this
        · by_cases e : m2 = m
          · rw [e]
          · rcases Nat.lt_or_ge m2 m with h5 | h5
            · have := HO.out m2 hm2 h5; rw [h3] at this; cases this
            · have := h4 m (by omega); rw [HQ.out, h] at this; cases this)
      have HO2 : Hid (q = false → ∀ j (hj : j < r.length), j < m + 1 → Mt.sameN r[j].name n = false) := Lib.hid (by
        intro h j hj hlt2
        by_cases e : j = m
        · subst e; rw [HQ.out, h]
        · exact HO.out j hj (by omega))
      have d1 : decide ((m : Int) < (m0 : Int)) = true := decide_eq_true (by omega)
      have d2 : decide (m < m0) = true := decide_eq_true hlt
      have i0 : (0 : Int) ≤ (m : Int) := by omega
      clear hq h0 HQ ht hmr hFT htl hbl
      generalize Mt.str t.name = TN at *
      go_upto_region 4 with fail
      go_wp2_with fail
      refine (HFT.out _).mono ?_
      rintro e w2 ⟨rfl, hb⟩
      have HB2 := Lib.hid (HB.out.trans (hb.mono HB.out.size))
      clear hb x0
      go_wp2_with fail
      refine (HFN.out _).mono ?_
      rintro e w3 ⟨rfl, hb⟩
      have HB3 := Lib.hid (HB2.out.trans (hb.mono HB2.out.size))
      clear hb
      cases q with
      | false =>
        have g0 : (FT.toList == FN.toList) = false := HEQ.out
        go_wp2_with fail
        go_roundw
        case rel => exact ⟨m + 1, by omega, by go_num, Lib.hid (HO2.out (by first | rfl | trivial)), HB3⟩
        case measure => simp [intOf]; omega
      | true =>
        have g0 : FT.toList = FN.toList := by have := HEQ.out; simpa using this
        go_wp2_with fail
        all_goals (go_ret; exact ⟨Mt.ret_int (HH.out (by first | rfl | trivial)).symm, HB3.out⟩)
    · have HH : Hid (k = -1) := Lib.hid (by
        rcases HD.out with ⟨h1, _⟩ | ⟨m2, rfl, hm2, h3, h4⟩
        · exact h1
        · have := HO.out m2 hm2 (by have := HL.out; omega); rw [h3] at this; cases this)
      have d1 : decide ((m : Int) < (m0 : Int)) = false := decide_eq_false (by omega)
      have d2 : decide (m < m0) = false := decide_eq_false hlt
      go_wp2_with fail
      go_ret
      exact ⟨Mt.ret_int HH.out.symm, HB.out⟩
end Go.Proofs.YtngdbhncafnliaaGreat
