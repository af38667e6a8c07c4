/-
  What is wrong with a type, with a class's Sup.
-/
import Derived.Test.YthkhicpkkmhfbaaScD
namespace Go.Proofs.Ythkhicpkkmhfbaa
open Go.RowKit

set_option maxRecDepth 100000 in
set_option maxHeartbeats 1000000 in
theorem checkType_any {tv cv : Value} {s : Mt.Sc} (i : Nat) (hi : i < s.types.length) {w : World} (h : IsSc w tv cv s) :
    Calls Try.prog 30 #[.agg #[tv, cv], .int .i64 (i : Int)] w fun e w' => e = .returned (.int .i64 (Mt.chkTy s i)) ∧ Below w.heap.size w w' := by
  have hg := Mt.tyI_get hi
  obtain ⟨t, ht⟩ : ∃ t, s.types[i] = t := ⟨_, rfl⟩
  rw [ht] at hg
  have htm : t.name.length ≤ 140737488351232 := by rw [← ht]; exact h.tnm _ (List.getElem_mem hi)
  have HK := Lib.hid (fun (u : World) (hb : Below w.heap.size w u) => typeAt_any t.name (by omega) (h.below hb))
  have HT := Lib.hid (fun u => type_any (Mt.str t.name) u)
  rw [Mt.str_data] at HT
  have hlen := h.tlen
  obtain ⟨R, hR⟩ : ∃ R, Mt.chkTy s i = R := ⟨_, rfl⟩
  have hR2 := hR
  unfold Mt.chkTy at hR
  rw [hg] at hR
  have HR := Lib.hid hR
  rw [hR2]
  obtain ⟨a, cap, hv, hcap, hcell⟩ := h.types
  obtain ⟨b, off, e0, hbl, h0, h1, h2, h3⟩ := hcell.out i hi
  rw [ht] at h0 h1 h2 h3
  subst e0
  subst hv
  obtain ⟨n, hn⟩ : ∃ n, s.types.length = n := ⟨_, rfl⟩
  rw [hn] at hcap hlen HK ⊢
  have hlt : i < n := by omega
  obtain ⟨w1, hw1⟩ : ∃ w1, w.alloc (.cells #[.slice (some ⟨b, off, none⟩) n cap, cv] 59) = w1 := ⟨_, rfl⟩
  have HA1 : Hid (Below w.heap.size w w1) := Lib.hid (by rw [← hw1]; exact (Below.refl _ w).alloc (Nat.le_refl _) _)
  have hs1 : w1.heap.size = w.heap.size + 1 := by rw [← hw1]; simp
  have hx1 : w1.heap[w.heap.size]? = some (.cells #[.slice (some ⟨b, off, none⟩) n cap, cv] 59) := by rw [← hw1]; exact heap_alloc_new w _
  obtain ⟨N, hN⟩ : ∃ N, Mt.str t.name = N := ⟨_, rfl⟩
  rw [hN] at h0 HK HT
  obtain ⟨w2, hw2⟩ : ∃ w2, w1.alloc (.cells #[.string N, .int .i64 t.syn, .bool t.single, .bool t.oper] 35) = w2 := ⟨_, rfl⟩
  have hA2 : Below w1.heap.size w1 w2 := by rw [← hw2]; exact (Below.refl _ w1).alloc (Nat.le_refl _) _
  have HA2 := Lib.hid (HA1.out.trans (hA2.mono (by omega)))
  have hs2 : w2.heap.size = w.heap.size + 2 := by rw [← hw2]; simp [hs1]
  have hx2 : w2.heap[w1.heap.size]? = some (.cells #[.string N, .int .i64 t.syn, .bool t.single, .bool t.oper] 35) := by rw [← hw2]; exact heap_alloc_new w1 _
  have hx1' := (hA2.block w.heap.size (by omega)).trans hx1
  rw [hs1] at hx2
  have HP : Hid (∀ u, Below w2.heap.size w2 u → u.cell? ⟨w.heap.size, 0, none⟩ = some (.slice (some ⟨b, off, none⟩) n cap) ∧ u.cell? ⟨w.heap.size, 1, none⟩ = some cv ∧ u.cell? ⟨w.heap.size + 1, 0, none⟩ = some (.string N) ∧ u.cell? ⟨w.heap.size + 1, 1, none⟩ = some (.int .i64 t.syn)) := Lib.hid (fun u hu => by
    have r1 := (hu.block w.heap.size (by omega)).trans hx1'
    have r2 := (hu.block (w.heap.size + 1) (by omega)).trans hx2
    exact ⟨by rw [cell_of_row _ _ _ _ _ _ r1]; rfl, by rw [cell_of_row _ _ _ _ _ _ r1]; rfl, by rw [cell_of_row _ _ _ _ _ _ r2]; rfl, by rw [cell_of_row _ _ _ _ _ _ r2]; rfl⟩)
  have y0 := (HA1.out.cell (p := ⟨b, off + i * 4, none⟩) hbl).trans h0
  have y1 := (HA1.out.cell (p := ⟨b, off + i * 4 + 1, none⟩) hbl).trans h1
  have y2 := (HA1.out.cell (p := ⟨b, off + i * 4 + 2, none⟩) hbl).trans h2
  have y3 := (HA1.out.cell (p := ⟨b, off + i * 4 + 3, none⟩) hbl).trans h3
  have p0 : w1.cell? ⟨w.heap.size, 0, none⟩ = some (.slice (some ⟨b, off, none⟩) n cap) := by rw [cell_of_row _ _ _ _ _ _ hx1]; rfl
  have i0 : (0 : Int) ≤ (i : Int) := by omega
  have i1 : (i : Int) < (n : Int) := by omega
  obtain ⟨TL, hTL⟩ : ∃ z, Mt.typL t.name = z := ⟨_, rfl⟩
  rw [hTL] at HT HR
  obtain ⟨k, hk⟩ : ∃ k, Mt.tyAt s t.name = k := ⟨_, rfl⟩
  rw [hk] at HK HR
  clear h hi hg ht htm hR hR2 hcell h0 h1 h2 h3 hbl hn hN hTL hk hA2 hx1 hx2 hx1'
  go_enter Try.func30, Try.ntmps30
  go_upto_region 2 with fail
  obtain ⟨q0, q1, q2, q3⟩ := HP.out w2 (Below.refl _ _)
  go_wp2_with fail
  refine (HT.out _).mono ?_
  rintro e w3 ⟨rfl, hb⟩
  have HB3 := Lib.hid (HA2.out.trans (hb.mono HA2.out.size))
  have HW3 := Lib.hid hb
  clear hb q0 q1 q2 q3 HT
  obtain ⟨q0, q1, q2, q3⟩ := HP.out w3 HW3.out
  cases TL with
  | false =>
    have HE : Hid (R = 20) := Lib.hid (by rw [← HR.out, if_pos rfl])
    go_wp2_with fail
    all_goals (go_ret; exact ⟨Mt.ret_int HE.out.symm, HB3.out⟩)
  | true =>
    have HR2 := Lib.hid HR.out
    rw [if_neg (by decide)] at HR2
    clear HR
    go_wp2_with fail
    refine (HK.out _ HB3.out).mono ?_
    rintro e w4 ⟨rfl, hb⟩
    have HB4 := Lib.hid (HB3.out.trans (hb.mono HB3.out.size))
    have HW4 := Lib.hid (HW3.out.trans (hb.mono HW3.out.size))
    clear hb q0 q1 q2 q3 HK
    obtain ⟨q0, q1, q2, q3⟩ := HP.out w4 HW4.out
    by_cases hc : k < (i : Int)
    · have HE : Hid (R = 21) := Lib.hid (by rw [← HR2.out, if_pos hc])
      have d1 : decide (k < (i : Int)) = true := decide_eq_true hc
      go_wp2_with fail
      all_goals (go_ret; exact ⟨Mt.ret_int HE.out.symm, HB4.out⟩)
    · have d1 : decide (k < (i : Int)) = false := decide_eq_false hc
      generalize t.syn = sy at *
      by_cases hs1 : sy < 1
      · have HE : Hid (R = 23) := Lib.hid (by rw [← HR2.out, if_neg hc, if_pos (.inl hs1)])
        have d2 : decide (sy < 1) = true := decide_eq_true hs1
        clear hc hs1
        go_wp2_with fail
        all_goals (go_ret; exact ⟨Mt.ret_int HE.out.symm, HB4.out⟩)
      · have d2 : decide (sy < 1) = false := decide_eq_false hs1
        by_cases hs8 : 8 < sy
        · have HE : Hid (R = 23) := Lib.hid (by rw [← HR2.out, if_neg hc, if_pos (.inr hs8)])
          have d3 : decide (8 < sy) = true := decide_eq_true hs8
          clear hc hs1 hs8
          go_wp2_with fail
          all_goals (go_ret; exact ⟨Mt.ret_int HE.out.symm, HB4.out⟩)
        · have HE : Hid (R = 0) := Lib.hid (by rw [← HR2.out, if_neg hc, if_neg (fun h => h.elim hs1 hs8)])
          have d3 : decide (8 < sy) = false := decide_eq_false hs8
          clear hc hs1 hs8
          go_wp2_with fail
          all_goals (go_ret; exact ⟨Mt.ret_int HE.out.symm, HB4.out⟩)
end Go.Proofs.Ythkhicpkkmhfbaa
