/-
  What the document's Same comes to.
-/
import Derived.Test.YthpedokhalndjabDnF
import Derived.Test.YthpedokhalndjabDnC
import Derived.Deep.QuietTactic
import Derived.BigQuiet
namespace Go.Proofs.Ythpedokhalndjab
open Go.RowKit

theorem IsDn.row {w : World} {a : Option Addr} {n cap : Nat} {d : List (List Mt.Av)} (h : IsDn w (.slice a n cap) d) (j : Nat) (hj : j < d.length) : ∃ b off, a = some ⟨b, off, none⟩ ∧ ∃ x, IsAvs w x d[j] ∧ ∀ u, Below w.heap.size w u → u.cell? ⟨b, off + j, none⟩ = some x := by
  obtain ⟨a1, cap1, h1, _, _, h4⟩ := h
  cases h1
  rcases h4 with h | ⟨b, off, h1, h2, h3⟩
  · subst h; simp at hj
  · obtain ⟨x, h4, h5⟩ := h3 j hj
    exact ⟨b, off, h1, x, h5, fun u hu => (hu.cell (p := ⟨b, off + j, none⟩) h2).trans h4⟩
theorem IsAvs.row {w : World} {a : Option Addr} {n cap : Nat} {r : List Mt.Av} (h : IsAvs w (.slice a n cap) r) (j : Nat) (hj : j < r.length) : ∃ b off, a = some ⟨b, off, none⟩ ∧ ∀ u, Below w.heap.size w u → u.cell? ⟨b, off + j * 2, none⟩ = some (.string (Mt.str r[j].1)) ∧ u.cell? ⟨b, off + j * 2 + 1, none⟩ = some (.string (Mt.str r[j].2)) := by
  obtain ⟨a1, cap1, h1, _, _, h4⟩ := h
  cases h1
  rcases h4 with h | ⟨b, off, h1, h2, h3⟩
  · subst h; simp at hj
  · exact ⟨b, off, h1, fun u hu => ⟨(hu.cell (p := ⟨b, off + j * 2, none⟩) h2).trans (h3 j hj).1, (hu.cell (p := ⟨b, off + j * 2 + 1, none⟩) h2).trans (h3 j hj).2⟩⟩
theorem Below.drewK {B : Nat} {a w : World} (h : Below B a w) (m : Nat) : Below B a (w.drewN m) := ⟨h.os, h.tape, h.output, h.size, h.block⟩
theorem Mt.ext_of {α : Type} {a b : List α} (hl : a.length = b.length) (h : ∀ j (h1 : j < a.length) (h2 : j < b.length), a[j] = b[j]) : a = b := List.ext_getElem hl h

set_option maxRecDepth 100000 in
set_option maxHeartbeats 1000000 in
theorem same9_any {w : World} {v1 v2 : Value} {d1 d2 : List (List Mt.Av)} (hv1 : IsDn w v1 d1) (hv2 : IsDn w v2 d2) :
    Calls Try.prog 23 #[v1, v2] w fun e w' => e = .returned (.bool (decide (d1 = d2))) ∧ Below w.heap.size w w' := by
  have HV1 := Lib.hid hv1
  have HV2 := Lib.hid hv2
  obtain ⟨a1, cap1, rfl, hn1, _⟩ := hv1
  obtain ⟨a2, cap2, rfl, hn2, _⟩ := hv2
  have HX1 := Lib.hid (HV1.out.row)
  have HX2 := Lib.hid (HV2.out.row)
  by_cases hl : d1.length = d2.length
  · have hli : ((d1.length : Int) != d2.length) = false := by simp [hl]
    obtain ⟨Z, hZ⟩ : ∃ Z, decide (d1 = d2) = Z := ⟨_, rfl⟩
    have HNO : Hid (∀ j (h1 : j < d1.length) (h2 : j < d2.length), d1[j] ≠ d2[j] → Z = false) := Lib.hid (by
      intro j h1 h2 hne
      rw [← hZ]; simp only [decide_eq_false_iff_not]; rintro rfl; exact hne rfl)
    have HYES : Hid ((∀ j (h1 : j < d1.length) (h2 : j < d2.length), d1[j] = d2[j]) → Z = true) := Lib.hid (by
      intro h; rw [← hZ]; simp only [decide_eq_true_eq]; exact Mt.ext_of hl h)
    have HL := Lib.hid hl
    rw [hZ]
    clear hZ hl HV1 HV2
    go_enter Try.func23, Try.ntmps23
    go_wp2_with fail
    go_loopw [14] (fun i wr => ∃ (k : Nat), i = .int .i64 k ∧ k ≤ d1.length ∧ Hid (∀ j (h1 : j < d1.length) (h2 : j < d2.length), j < k → d1[j] = d2[j]) ∧ Hid (Below w.heap.size w wr))
      (fun i _ => d1.length - (intOf i).toNat)
    case atStart => exact ⟨0, rfl, Nat.zero_le _, Lib.hid (fun j _ _ h => absurd h (Nat.not_lt_zero _)), Lib.hid (Below.refl _ _)⟩
    case round =>
      obtain ⟨k, rfl, hk, HE, HB⟩ := hrel
      by_cases hlt : k < d1.length
      · have hlt2 : k < d2.length := by have := HL.out; omega
        obtain ⟨b1, o1, rfl, x1, hx1, hc1⟩ := HX1.out k hlt
        obtain ⟨b2, o2, rfl, x2, hx2, hc2⟩ := HX2.out k hlt2
        have HR1 := Lib.hid hx1
        have HR2 := Lib.hid hx2
        obtain ⟨xa1, xc1, rfl, hm1, _⟩ := hx1
        obtain ⟨xa2, xc2, rfl, hm2, _⟩ := hx2
        have HY1 := Lib.hid (HR1.out.row)
        have HY2 := Lib.hid (HR2.out.row)
        have HC := Lib.hid (fun (u : World) (hu : Below w.heap.size w u) => And.intro (hc1 u hu) (hc2 u hu))
        have p1 := hc1 wr HB.out
        have p2 := hc2 wr HB.out
        have i1 : (k : Int) < (d1.length : Int) := by omega
        have i2 : (k : Int) < (d2.length : Int) := by omega
        obtain ⟨q, hq⟩ : ∃ q, (((d1[k].length : Int)) != (d2[k].length : Int)) = q := ⟨_, rfl⟩
        clear hc1 hc2 HR1 HR2
        cases q
        · have HQ : Hid (d1[k].length = d2[k].length) := Lib.hid (by have := hq; simp at this; omega)
          go_wp2_with fail
          go_quiet (fail)
          go_wp2_with fail
          have HB2 := Lib.hid (Below.drewK HB.out nq)
          generalize wr.drewN nq = wr2 at *
          go_loopw [33] (fun i wi => ∃ (m : Nat), i = .int .i64 m ∧ m ≤ d1[k].length ∧ Hid (∀ j (h1 : j < d1[k].length) (h2 : j < d2[k].length), j < m → d1[k][j] = d2[k][j]) ∧ Hid (Below w.heap.size w wi))
            (fun i _ => d1[k].length - (intOf i).toNat)
          case atStart => exact ⟨0, rfl, Nat.zero_le _, Lib.hid (fun j _ _ h => absurd h (Nat.not_lt_zero _)), HB2⟩
          case round =>
            obtain ⟨m, rfl, hm, HEI, HBI⟩ := hrel
            obtain ⟨p1, p2⟩ := HC.out wr HBI.out
            by_cases hmlt : m < d1[k].length
            · have hmlt2 : m < d2[k].length := by have := HQ.out; omega
              obtain ⟨c1, f1, rfl, g1⟩ := HY1.out m hmlt
              obtain ⟨c2, f2, rfl, g2⟩ := HY2.out m hmlt2
              obtain ⟨s1, s2⟩ := g1 wr HBI.out
              obtain ⟨s3, s4⟩ := g2 wr HBI.out
              have j1 : (m : Int) < (d1[k].length : Int) := by omega
              have j2 : (m : Int) < (d2[k].length : Int) := by omega
              obtain ⟨z1, h1⟩ : ∃ z, ((Mt.str d1[k][m].1).toList == (Mt.str d2[k][m].1).toList) = z := ⟨_, rfl⟩
              obtain ⟨z2, h2⟩ : ∃ z, ((Mt.str d1[k][m].2).toList == (Mt.str d2[k][m].2).toList) = z := ⟨_, rfl⟩
              have HZ : Hid (decide (d1[k][m] = d2[k][m]) = (z1 && z2)) := Lib.hid (by
                rw [← h1, ← h2, Mt.beq_dec, Mt.beq_dec, Bool.eq_iff_iff]
                simp only [decide_eq_true_eq, Bool.and_eq_true]
                constructor
                · intro e; rw [e]; exact ⟨rfl, rfl⟩
                · rintro ⟨e1, e2⟩
                  have f1 : d1[k][m].1 = d2[k][m].1 := by rw [← Mt.str_data d1[k][m].1, e1]; rfl
                  have f2 : d1[k][m].2 = d2[k][m].2 := by rw [← Mt.str_data d1[k][m].2, e2]; rfl
                  exact Prod.ext f1 f2)
              have HNZ : Hid ((z1 && z2) = false → Z = false) := Lib.hid (fun h => HNO.out k hlt hlt2 (fun e => by
                have := HZ.out
                rw [h] at this
                simp only [decide_eq_false_iff_not] at this
                exact this (by simp only [e])))
              have HNE : Hid ((z1 && z2) = true → ∀ j (h1 : j < d1[k].length) (h2 : j < d2[k].length), j < m + 1 → d1[k][j] = d2[k][j]) := Lib.hid (fun h j h1 h2 h3 => by
                by_cases e : j = m
                · subst e
                  have := HZ.out
                  rw [h] at this
                  simpa using this
                · exact HEI.out j h1 h2 (by omega))
              generalize Mt.str d1[k][m].1 = S1 at *
              generalize Mt.str d1[k][m].2 = S2 at *
              generalize Mt.str d2[k][m].1 = S3 at *
              generalize Mt.str d2[k][m].2 = S4 at *
              clear g1 g2 HZ
              cases z1 <;> cases z2
              case true.true =>
                have HNE2 := Lib.hid (HNE.out rfl)
                go_wp2_with fail
                go_quiet (fail)
                go_wp2_with fail
                go_roundw
                case rel => exact ⟨m + 1, by go_num, by omega, HNE2, Lib.hid (Below.drewK HBI.out _)⟩
                case measure => simp [intOf]; omega
              all_goals
                have HNZ2 := Lib.hid (HNZ.out rfl)
                go_wp2_with fail
                go_quiet (fail)
                go_wp2_with fail
                go_ret
                exact ⟨Mt.ret_bool HNZ2.out.symm, Below.drewK HBI.out _⟩
            · have HK : Hid (d1[k] = d2[k]) := Lib.hid (Mt.ext_of HQ.out (fun j h1 h2 => HEI.out j h1 h2 (by omega)))
              go_wp2_with fail
              go_roundw
              case rel => exact ⟨k + 1, by go_num, by omega, Lib.hid (fun j h1 h2 h3 => by
                by_cases e : j = k
                · subst e; exact HK.out
                · exact HE.out j h1 h2 (by omega)), HBI⟩
              case measure => simp [intOf]; omega
        · have HQ : Hid (Z = false) := Lib.hid (HNO.out k hlt hlt2 (fun e => by rw [e] at hq; simp at hq))
          go_wp2_with fail
          go_quiet (fail)
          go_wp2_with fail
          go_ret
          exact ⟨Mt.ret_bool HQ.out.symm, Below.drewK HB.out _⟩
      · have HQ : Hid (Z = true) := Lib.hid (HYES.out (fun j h1 h2 => HE.out j h1 h2 (by omega)))
        go_wp2_with fail
        go_ret
        exact ⟨Mt.ret_bool HQ.out.symm, HB.out⟩
  · have hli : ((d1.length : Int) != d2.length) = true := by simp; omega
    have HZ : Hid (decide (d1 = d2) = false) := Lib.hid (by simp only [decide_eq_false_iff_not]; rintro rfl; exact hl rfl)
    rw [HZ.out]
    clear hl
    go_enter Try.func23, Try.ntmps23
    go_wp2_with fail
    go_ret
    exact ⟨rfl, Below.refl _ _⟩
end Go.Proofs.Ythpedokhalndjab
